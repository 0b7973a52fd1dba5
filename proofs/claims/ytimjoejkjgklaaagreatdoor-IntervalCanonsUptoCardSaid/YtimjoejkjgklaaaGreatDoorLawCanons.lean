/- IsEmpty, Bounded, Sign of the reference. IsEmpty, Bounded, Sign of both sides are the same. The law IntervalCanons. -/
import Derived.Test.YtimjoejkjgklaaaGreatDoorAbsK
import Derived.Test.YtimjoejkjgklaaaGreatDoorCanI
import Derived.Test.YtimjoejkjgklaaaGreatDoorIsM
import Derived.Test.YtimjoejkjgklaaaGreatDoorAwake
import Derived.Test.YtimjoejkjgklaaaGreatDoorLawHas
set_option maxHeartbeats 8000000
set_option maxRecDepth 100000
namespace Go.Proofs.YtimjoejkjgklaaaGreatDoor
open Go.RowKit Dg
/-- The set of the reference has two finite ends, or is empty. -/
def jfin (r : (Bool × Nat × Nat) × (Bool × Nat × Nat) × Bool × Bool × Bool) : Bool := r.2.2.2.2 || (!r.2.2.1 && !r.2.2.2.1)
theorem jFinite_any (s1 : Bool) (p1 : Option Addr) (k1 c1 : Nat) (q1 : Option Addr) (l1 d1 : Nat) (sz1 : Bool) (pz1 : Option Addr) (kz1 cz1 : Nat) (qz1 : Option Addr) (lz1 dz1 : Nat) (x1 : Bool) (y1 : Bool) (e1 : Bool) (r : (Bool × Nat × Nat) × (Bool × Nat × Nat) × Bool × Bool × Bool) (w : World) (h : JRep w (.agg #[.bool s1, .slice p1 k1 c1, .slice q1 l1 d1, .bool sz1, .slice pz1 kz1 cz1, .slice qz1 lz1 dz1, .bool x1, .bool y1, .bool e1]) r) :
    Calls Tryz.prog 50 #[.agg #[.bool s1, .slice p1 k1 c1, .slice q1 l1 d1, .bool sz1, .slice pz1 kz1 cz1, .slice qz1 lz1 dz1, .bool x1, .bool y1, .bool e1]] w fun e w' => e = .returned (.bool (jfin r)) ∧ Below w.heap.size w w' := by
  obtain ⟨_, _, hi, hj, he⟩ := JRep.parts s1 p1 k1 c1 q1 l1 d1 sz1 pz1 kz1 cz1 qz1 lz1 dz1 x1 y1 e1 h
  unfold jfin
  rw [← hi, ← hj, ← he]
  clear h hi hj he
  cases e1 <;> cases x1 <;> cases y1
  all_goals
    go_enter Tryz.func50, Tryz.ntmps50
    go_wp2_with fail
    go_ret
    exact ⟨rfl, (Below.refl _ _).alloc (Nat.le_refl _) _⟩
theorem jIsEmpty_large (s1 : Bool) (p1 : Option Addr) (k1 c1 : Nat) (q1 : Option Addr) (l1 d1 : Nat) (sz1 : Bool) (pz1 : Option Addr) (kz1 cz1 : Nat) (qz1 : Option Addr) (lz1 dz1 : Nat) (x1 : Bool) (y1 : Bool) (a b : Bool × Nat × Nat) (w : World) (ha : NRep w (.agg #[.bool s1, .slice p1 k1 c1, .slice q1 l1 d1]) a) (hb : NRep w (.agg #[.bool sz1, .slice pz1 kz1 cz1, .slice qz1 lz1 dz1]) b) (h : ilarge (a, b, x1, y1) = true) :
    Calls Tryz.prog 13 #[.agg #[.bool s1, .slice p1 k1 c1, .slice q1 l1 d1, .bool sz1, .slice pz1 kz1 cz1, .slice qz1 lz1 dz1, .bool x1, .bool y1]] w fun e w' => e = .returned (.tuple #[.bool false, .int .i64 1]) ∧ Below w.heap.size w w' := by
  have HO := hid (fun (W : World) (hW : Below w.heap.size w W) => jOne_large s1 p1 k1 c1 q1 l1 d1 sz1 pz1 kz1 cz1 qz1 lz1 dz1 x1 y1 a b 0 W (ha.below hW) (hb.below hW) h)
  clear ha hb h
  go_enter Tryz.func13, Tryz.ntmps13
  go_wp2_with fail
  have HV := hid (pre1 w [.bool s1, .slice p1 k1 c1, .slice q1 l1 d1, .bool sz1, .slice pz1 kz1 cz1, .slice qz1 lz1 dz1, .bool x1, .bool y1] 26 nd8)
  generalize w.alloc (.cells #[.bool s1, .slice p1 k1 c1, .slice q1 l1 d1, .bool sz1, .slice pz1 kz1 cz1, .slice qz1 lz1 dz1, .bool x1, .bool y1] 26) = W0 at *
  refine (HO.out _ HV.out.2).mono ?_
  rintro e w1 ⟨rfl, hB1⟩
  have HE := hid (HV.out.2.trans (hB1.mono HV.out.2.size))
  clear hB1
  go_wp2_with fail
  go_ret2
  exact ⟨rfl, HE.out.alloc HE.out.size _⟩
theorem jBounded_large (s1 : Bool) (p1 : Option Addr) (k1 c1 : Nat) (q1 : Option Addr) (l1 d1 : Nat) (sz1 : Bool) (pz1 : Option Addr) (kz1 cz1 : Nat) (qz1 : Option Addr) (lz1 dz1 : Nat) (x1 : Bool) (y1 : Bool) (a b : Bool × Nat × Nat) (w : World) (ha : NRep w (.agg #[.bool s1, .slice p1 k1 c1, .slice q1 l1 d1]) a) (hb : NRep w (.agg #[.bool sz1, .slice pz1 kz1 cz1, .slice qz1 lz1 dz1]) b) (h : ilarge (a, b, x1, y1) = true) :
    Calls Tryz.prog 15 #[.agg #[.bool s1, .slice p1 k1 c1, .slice q1 l1 d1, .bool sz1, .slice pz1 kz1 cz1, .slice qz1 lz1 dz1, .bool x1, .bool y1]] w fun e w' => e = .returned (.tuple #[.bool false, .int .i64 1]) ∧ Below w.heap.size w w' := by
  have HO := hid (fun (W : World) (hW : Below w.heap.size w W) => jOne_large s1 p1 k1 c1 q1 l1 d1 sz1 pz1 kz1 cz1 qz1 lz1 dz1 x1 y1 a b 0 W (ha.below hW) (hb.below hW) h)
  clear ha hb h
  go_enter Tryz.func15, Tryz.ntmps15
  go_wp2_with fail
  have HV := hid (pre1 w [.bool s1, .slice p1 k1 c1, .slice q1 l1 d1, .bool sz1, .slice pz1 kz1 cz1, .slice qz1 lz1 dz1, .bool x1, .bool y1] 26 nd8)
  generalize w.alloc (.cells #[.bool s1, .slice p1 k1 c1, .slice q1 l1 d1, .bool sz1, .slice pz1 kz1 cz1, .slice qz1 lz1 dz1, .bool x1, .bool y1] 26) = W0 at *
  refine (HO.out _ HV.out.2).mono ?_
  rintro e w1 ⟨rfl, hB1⟩
  have HE := hid (HV.out.2.trans (hB1.mono HV.out.2.size))
  clear hB1
  go_wp2_with fail
  go_ret2
  exact ⟨rfl, HE.out.alloc HE.out.size _⟩
theorem jSign_large (s1 : Bool) (p1 : Option Addr) (k1 c1 : Nat) (q1 : Option Addr) (l1 d1 : Nat) (sz1 : Bool) (pz1 : Option Addr) (kz1 cz1 : Nat) (qz1 : Option Addr) (lz1 dz1 : Nat) (x1 : Bool) (y1 : Bool) (a b : Bool × Nat × Nat) (w : World) (ha : NRep w (.agg #[.bool s1, .slice p1 k1 c1, .slice q1 l1 d1]) a) (hb : NRep w (.agg #[.bool sz1, .slice pz1 kz1 cz1, .slice qz1 lz1 dz1]) b) (h : ilarge (a, b, x1, y1) = true) :
    Calls Tryz.prog 17 #[.agg #[.bool s1, .slice p1 k1 c1, .slice q1 l1 d1, .bool sz1, .slice pz1 kz1 cz1, .slice qz1 lz1 dz1, .bool x1, .bool y1]] w fun e w' => e = .returned (.tuple #[.int .i64 0, .int .i64 1]) ∧ Below w.heap.size w w' := by
  have HO := hid (fun (W : World) (hW : Below w.heap.size w W) => jOne_large s1 p1 k1 c1 q1 l1 d1 sz1 pz1 kz1 cz1 qz1 lz1 dz1 x1 y1 a b 0 W (ha.below hW) (hb.below hW) h)
  clear ha hb h
  go_enter Tryz.func17, Tryz.ntmps17
  go_wp2_with fail
  have HV := hid (pre1 w [.bool s1, .slice p1 k1 c1, .slice q1 l1 d1, .bool sz1, .slice pz1 kz1 cz1, .slice qz1 lz1 dz1, .bool x1, .bool y1] 26 nd8)
  generalize w.alloc (.cells #[.bool s1, .slice p1 k1 c1, .slice q1 l1 d1, .bool sz1, .slice pz1 kz1 cz1, .slice qz1 lz1 dz1, .bool x1, .bool y1] 26) = W0 at *
  refine (HO.out _ HV.out.2).mono ?_
  rintro e w1 ⟨rfl, hB1⟩
  have HE := hid (HV.out.2.trans (hB1.mono HV.out.2.size))
  clear hB1
  go_wp2_with fail
  go_ret2
  exact ⟨rfl, HE.out.alloc HE.out.size _⟩
theorem jIsEmpty_ok (s1 : Bool) (p1 : Option Addr) (k1 c1 : Nat) (q1 : Option Addr) (l1 d1 : Nat) (sz1 : Bool) (pz1 : Option Addr) (kz1 cz1 : Nat) (qz1 : Option Addr) (lz1 dz1 : Nat) (x1 : Bool) (y1 : Bool) (a b : Bool × Nat × Nat) (w : World) (ha : NRep w (.agg #[.bool s1, .slice p1 k1 c1, .slice q1 l1 d1]) a) (hb : NRep w (.agg #[.bool sz1, .slice pz1 kz1 cz1, .slice qz1 lz1 dz1]) b) (h1 : large a.2.1 a.2.2 = false) (h2 : large b.2.1 b.2.2 = false) :
    Calls Tryz.prog 13 #[.agg #[.bool s1, .slice p1 k1 c1, .slice q1 l1 d1, .bool sz1, .slice pz1 kz1 cz1, .slice qz1 lz1 dz1, .bool x1, .bool y1]] w fun e w' => e = .returned (.tuple #[.bool (jof (a, b, x1, y1)).2.2.2.2, .int .i64 0]) ∧ Below w.heap.size w w' := by
  have HO := hid (fun (W : World) (hW : Below w.heap.size w W) => jOne_ok s1 p1 k1 c1 q1 l1 d1 sz1 pz1 kz1 cz1 qz1 lz1 dz1 x1 y1 a b 0 W (ha.below hW) (hb.below hW) h1 h2 (by omega) (by omega))
  clear ha hb h1 h2
  obtain ⟨r, hr⟩ : ∃ r, r = jof (a, b, x1, y1) := ⟨_, rfl⟩
  rw [← hr] at HO
  rw [← hr]
  clear hr
  go_enter Tryz.func13, Tryz.ntmps13
  go_wp2_with fail
  have HV := hid (pre1 w [.bool s1, .slice p1 k1 c1, .slice q1 l1 d1, .bool sz1, .slice pz1 kz1 cz1, .slice qz1 lz1 dz1, .bool x1, .bool y1] 26 nd8)
  generalize w.alloc (.cells #[.bool s1, .slice p1 k1 c1, .slice q1 l1 d1, .bool sz1, .slice pz1 kz1 cz1, .slice qz1 lz1 dz1, .bool x1, .bool y1] 26) = W0 at *
  refine (HO.out _ HV.out.2).mono ?_
  rintro e w1 ⟨s2, p2, k2, c2, q2, l2, d2, sz2, pz2, kz2, cz2, qz2, lz2, dz2, x2, y2, e2, rfl, hJ, hB1⟩
  have HE := hid (HV.out.2.trans (hB1.mono HV.out.2.size))
  clear hB1
  have HR := hid (JRep.parts s2 p2 k2 c2 q2 l2 d2 sz2 pz2 kz2 cz2 qz2 lz2 dz2 x2 y2 e2 hJ.out).2.2.2.2
  clear hJ
  go_wp2_with fail
  go_ret2
  exact ⟨by rw [← HR.out]; first | rfl | (cases e2 <;> rfl), HE.out.alloc HE.out.size _⟩
theorem jBounded_ok (s1 : Bool) (p1 : Option Addr) (k1 c1 : Nat) (q1 : Option Addr) (l1 d1 : Nat) (sz1 : Bool) (pz1 : Option Addr) (kz1 cz1 : Nat) (qz1 : Option Addr) (lz1 dz1 : Nat) (x1 : Bool) (y1 : Bool) (a b : Bool × Nat × Nat) (w : World) (ha : NRep w (.agg #[.bool s1, .slice p1 k1 c1, .slice q1 l1 d1]) a) (hb : NRep w (.agg #[.bool sz1, .slice pz1 kz1 cz1, .slice qz1 lz1 dz1]) b) (h1 : large a.2.1 a.2.2 = false) (h2 : large b.2.1 b.2.2 = false) :
    Calls Tryz.prog 15 #[.agg #[.bool s1, .slice p1 k1 c1, .slice q1 l1 d1, .bool sz1, .slice pz1 kz1 cz1, .slice qz1 lz1 dz1, .bool x1, .bool y1]] w fun e w' => e = .returned (.tuple #[.bool (jfin (jof (a, b, x1, y1))), .int .i64 0]) ∧ Below w.heap.size w w' := by
  have HO := hid (fun (W : World) (hW : Below w.heap.size w W) => jOne_ok s1 p1 k1 c1 q1 l1 d1 sz1 pz1 kz1 cz1 qz1 lz1 dz1 x1 y1 a b 0 W (ha.below hW) (hb.below hW) h1 h2 (by omega) (by omega))
  have HF := hid (fun (W : World) (s3 : Bool) (p3 : Option Addr) (k3 c3 : Nat) (q3 : Option Addr) (l3 d3 : Nat) (sz3 : Bool) (pz3 : Option Addr) (kz3 cz3 : Nat) (qz3 : Option Addr) (lz3 dz3 : Nat) (x3 : Bool) (y3 : Bool) (e3 : Bool) (h : JRep W (.agg #[.bool s3, .slice p3 k3 c3, .slice q3 l3 d3, .bool sz3, .slice pz3 kz3 cz3, .slice qz3 lz3 dz3, .bool x3, .bool y3, .bool e3]) (jof (a, b, x1, y1))) => jFinite_any s3 p3 k3 c3 q3 l3 d3 sz3 pz3 kz3 cz3 qz3 lz3 dz3 x3 y3 e3 _ W h)
  clear ha hb h1 h2
  obtain ⟨r, hr⟩ : ∃ r, r = jof (a, b, x1, y1) := ⟨_, rfl⟩
  rw [← hr] at HO HF
  rw [← hr]
  clear hr
  go_enter Tryz.func15, Tryz.ntmps15
  go_wp2_with fail
  have HV := hid (pre1 w [.bool s1, .slice p1 k1 c1, .slice q1 l1 d1, .bool sz1, .slice pz1 kz1 cz1, .slice qz1 lz1 dz1, .bool x1, .bool y1] 26 nd8)
  generalize w.alloc (.cells #[.bool s1, .slice p1 k1 c1, .slice q1 l1 d1, .bool sz1, .slice pz1 kz1 cz1, .slice qz1 lz1 dz1, .bool x1, .bool y1] 26) = W0 at *
  refine (HO.out _ HV.out.2).mono ?_
  rintro e w1 ⟨s2, p2, k2, c2, q2, l2, d2, sz2, pz2, kz2, cz2, qz2, lz2, dz2, x2, y2, e2, rfl, hJ, hB1⟩
  have HE := hid (HV.out.2.trans (hB1.mono HV.out.2.size))
  clear hB1
  have HJ := hid hJ.out
  clear hJ
  go_upto_region 2 with fail
  have HX := hid (pre1 w1 [.bool s2, .slice p2 k2 c2, .slice q2 l2 d2, .bool sz2, .slice pz2 kz2 cz2, .slice qz2 lz2 dz2, .bool x2, .bool y2, .bool e2] 66 nd9)
  generalize w1.alloc (.cells #[.bool s2, .slice p2 k2 c2, .slice q2 l2 d2, .bool sz2, .slice pz2 kz2 cz2, .slice qz2 lz2 dz2, .bool x2, .bool y2, .bool e2] 66) = W1 at *
  have HE2 := hid (HE.out.trans (HX.out.2.mono HE.out.size))
  obtain ⟨m0, m1, m2, m3, m4, m5, m6, m7, m8, _⟩ := HX.out.1.cells9
  go_wp2_with fail
  refine (HF.out _ s2 p2 k2 c2 q2 l2 d2 sz2 pz2 kz2 cz2 qz2 lz2 dz2 x2 y2 e2 (HJ.out.below HX.out.2)).mono ?_
  rintro e w2 ⟨rfl, hB2⟩
  have HE3 := hid (HE2.out.trans (hB2.mono HE2.out.size))
  clear hB2
  go_wp2_with fail
  go_ret2
  exact ⟨rfl, HE3.out⟩
theorem jSign_ok (s1 : Bool) (p1 : Option Addr) (k1 c1 : Nat) (q1 : Option Addr) (l1 d1 : Nat) (sz1 : Bool) (pz1 : Option Addr) (kz1 cz1 : Nat) (qz1 : Option Addr) (lz1 dz1 : Nat) (x1 : Bool) (y1 : Bool) (a b : Bool × Nat × Nat) (w : World) (ha : NRep w (.agg #[.bool s1, .slice p1 k1 c1, .slice q1 l1 d1]) a) (hb : NRep w (.agg #[.bool sz1, .slice pz1 kz1 cz1, .slice qz1 lz1 dz1]) b) (h1 : large a.2.1 a.2.2 = false) (h2 : large b.2.1 b.2.2 = false) :
    Calls Tryz.prog 17 #[.agg #[.bool s1, .slice p1 k1 c1, .slice q1 l1 d1, .bool sz1, .slice pz1 kz1 cz1, .slice qz1 lz1 dz1, .bool x1, .bool y1]] w fun e w' => e = .returned (.tuple #[.int .i64 (jsg (jof (a, b, x1, y1))), .int .i64 0]) ∧ Below w.heap.size w w' := by
  have HO := hid (fun (W : World) (hW : Below w.heap.size w W) => jOne_ok s1 p1 k1 c1 q1 l1 d1 sz1 pz1 kz1 cz1 qz1 lz1 dz1 x1 y1 a b 0 W (ha.below hW) (hb.below hW) h1 h2 (by omega) (by omega))
  have HF := hid (fun (W : World) (s3 : Bool) (p3 : Option Addr) (k3 c3 : Nat) (q3 : Option Addr) (l3 d3 : Nat) (sz3 : Bool) (pz3 : Option Addr) (kz3 cz3 : Nat) (qz3 : Option Addr) (lz3 dz3 : Nat) (x3 : Bool) (y3 : Bool) (e3 : Bool) (h : JRep W (.agg #[.bool s3, .slice p3 k3 c3, .slice q3 l3 d3, .bool sz3, .slice pz3 kz3 cz3, .slice qz3 lz3 dz3, .bool x3, .bool y3, .bool e3]) (jof (a, b, x1, y1))) => jSignOf_any s3 p3 k3 c3 q3 l3 d3 sz3 pz3 kz3 cz3 qz3 lz3 dz3 x3 y3 e3 _ W h (JGood.of h1 h2))
  clear ha hb h1 h2
  obtain ⟨r, hr⟩ : ∃ r, r = jof (a, b, x1, y1) := ⟨_, rfl⟩
  rw [← hr] at HO HF
  rw [← hr]
  clear hr
  go_enter Tryz.func17, Tryz.ntmps17
  go_wp2_with fail
  have HV := hid (pre1 w [.bool s1, .slice p1 k1 c1, .slice q1 l1 d1, .bool sz1, .slice pz1 kz1 cz1, .slice qz1 lz1 dz1, .bool x1, .bool y1] 26 nd8)
  generalize w.alloc (.cells #[.bool s1, .slice p1 k1 c1, .slice q1 l1 d1, .bool sz1, .slice pz1 kz1 cz1, .slice qz1 lz1 dz1, .bool x1, .bool y1] 26) = W0 at *
  refine (HO.out _ HV.out.2).mono ?_
  rintro e w1 ⟨s2, p2, k2, c2, q2, l2, d2, sz2, pz2, kz2, cz2, qz2, lz2, dz2, x2, y2, e2, rfl, hJ, hB1⟩
  have HE := hid (HV.out.2.trans (hB1.mono HV.out.2.size))
  clear hB1
  have HJ := hid hJ.out
  clear hJ
  go_upto_region 2 with fail
  have HX := hid (pre1 w1 [.bool s2, .slice p2 k2 c2, .slice q2 l2 d2, .bool sz2, .slice pz2 kz2 cz2, .slice qz2 lz2 dz2, .bool x2, .bool y2, .bool e2] 66 nd9)
  generalize w1.alloc (.cells #[.bool s2, .slice p2 k2 c2, .slice q2 l2 d2, .bool sz2, .slice pz2 kz2 cz2, .slice qz2 lz2 dz2, .bool x2, .bool y2, .bool e2] 66) = W1 at *
  have HE2 := hid (HE.out.trans (HX.out.2.mono HE.out.size))
  obtain ⟨m0, m1, m2, m3, m4, m5, m6, m7, m8, _⟩ := HX.out.1.cells9
  go_wp2_with fail
  refine (HF.out _ s2 p2 k2 c2 q2 l2 d2 sz2 pz2 kz2 cz2 qz2 lz2 dz2 x2 y2 e2 (HJ.out.below HX.out.2)).mono ?_
  rintro e w2 ⟨rfl, hB2⟩
  have HE3 := hid (HE2.out.trans (hB2.mono HE2.out.size))
  clear hB2
  go_wp2_with fail
  go_ret2
  exact ⟨rfl, HE3.out⟩
theorem jIsEmpty_any (s1 : Bool) (p1 : Option Addr) (k1 c1 : Nat) (q1 : Option Addr) (l1 d1 : Nat) (sz1 : Bool) (pz1 : Option Addr) (kz1 cz1 : Nat) (qz1 : Option Addr) (lz1 dz1 : Nat) (x1 : Bool) (y1 : Bool) (a b : Bool × Nat × Nat) (w : World) (ha : NRep w (.agg #[.bool s1, .slice p1 k1 c1, .slice q1 l1 d1]) a) (hb : NRep w (.agg #[.bool sz1, .slice pz1 kz1 cz1, .slice qz1 lz1 dz1]) b) :
    Calls Tryz.prog 13 #[.agg #[.bool s1, .slice p1 k1 c1, .slice q1 l1 d1, .bool sz1, .slice pz1 kz1 cz1, .slice qz1 lz1 dz1, .bool x1, .bool y1]] w fun e w' => e = .returned (.tuple #[.bool (if ilarge (a, b, x1, y1) then false else (jof (a, b, x1, y1)).2.2.2.2), .int .i64 (icode (a, b, x1, y1))]) ∧ Below w.heap.size w w' := by
  unfold icode
  cases hL : (large a.2.1 a.2.2 || large b.2.1 b.2.2)
  · have hla : ilarge (a, b, x1, y1) = false := hL
    rw [hla]
    rw [Bool.or_eq_false_iff] at hL
    exact jIsEmpty_ok s1 p1 k1 c1 q1 l1 d1 sz1 pz1 kz1 cz1 qz1 lz1 dz1 x1 y1 a b w ha hb hL.1 hL.2
  · have hla : ilarge (a, b, x1, y1) = true := hL
    rw [hla]
    exact jIsEmpty_large s1 p1 k1 c1 q1 l1 d1 sz1 pz1 kz1 cz1 qz1 lz1 dz1 x1 y1 a b w ha hb hla
theorem jBounded_any (s1 : Bool) (p1 : Option Addr) (k1 c1 : Nat) (q1 : Option Addr) (l1 d1 : Nat) (sz1 : Bool) (pz1 : Option Addr) (kz1 cz1 : Nat) (qz1 : Option Addr) (lz1 dz1 : Nat) (x1 : Bool) (y1 : Bool) (a b : Bool × Nat × Nat) (w : World) (ha : NRep w (.agg #[.bool s1, .slice p1 k1 c1, .slice q1 l1 d1]) a) (hb : NRep w (.agg #[.bool sz1, .slice pz1 kz1 cz1, .slice qz1 lz1 dz1]) b) :
    Calls Tryz.prog 15 #[.agg #[.bool s1, .slice p1 k1 c1, .slice q1 l1 d1, .bool sz1, .slice pz1 kz1 cz1, .slice qz1 lz1 dz1, .bool x1, .bool y1]] w fun e w' => e = .returned (.tuple #[.bool (if ilarge (a, b, x1, y1) then false else jfin (jof (a, b, x1, y1))), .int .i64 (icode (a, b, x1, y1))]) ∧ Below w.heap.size w w' := by
  unfold icode
  cases hL : (large a.2.1 a.2.2 || large b.2.1 b.2.2)
  · have hla : ilarge (a, b, x1, y1) = false := hL
    rw [hla]
    rw [Bool.or_eq_false_iff] at hL
    exact jBounded_ok s1 p1 k1 c1 q1 l1 d1 sz1 pz1 kz1 cz1 qz1 lz1 dz1 x1 y1 a b w ha hb hL.1 hL.2
  · have hla : ilarge (a, b, x1, y1) = true := hL
    rw [hla]
    exact jBounded_large s1 p1 k1 c1 q1 l1 d1 sz1 pz1 kz1 cz1 qz1 lz1 dz1 x1 y1 a b w ha hb hla
theorem jSign_any (s1 : Bool) (p1 : Option Addr) (k1 c1 : Nat) (q1 : Option Addr) (l1 d1 : Nat) (sz1 : Bool) (pz1 : Option Addr) (kz1 cz1 : Nat) (qz1 : Option Addr) (lz1 dz1 : Nat) (x1 : Bool) (y1 : Bool) (a b : Bool × Nat × Nat) (w : World) (ha : NRep w (.agg #[.bool s1, .slice p1 k1 c1, .slice q1 l1 d1]) a) (hb : NRep w (.agg #[.bool sz1, .slice pz1 kz1 cz1, .slice qz1 lz1 dz1]) b) :
    Calls Tryz.prog 17 #[.agg #[.bool s1, .slice p1 k1 c1, .slice q1 l1 d1, .bool sz1, .slice pz1 kz1 cz1, .slice qz1 lz1 dz1, .bool x1, .bool y1]] w fun e w' => e = .returned (.tuple #[.int .i64 (if ilarge (a, b, x1, y1) then 0 else jsg (jof (a, b, x1, y1))), .int .i64 (icode (a, b, x1, y1))]) ∧ Below w.heap.size w w' := by
  unfold icode
  cases hL : (large a.2.1 a.2.2 || large b.2.1 b.2.2)
  · have hla : ilarge (a, b, x1, y1) = false := hL
    rw [hla]
    rw [Bool.or_eq_false_iff] at hL
    exact jSign_ok s1 p1 k1 c1 q1 l1 d1 sz1 pz1 kz1 cz1 qz1 lz1 dz1 x1 y1 a b w ha hb hL.1 hL.2
  · have hla : ilarge (a, b, x1, y1) = true := hL
    rw [hla]
    exact jSign_large s1 p1 k1 c1 q1 l1 d1 sz1 pz1 kz1 cz1 qz1 lz1 dz1 x1 y1 a b w ha hb hla
end Go.Proofs.YtimjoejkjgklaaaGreatDoor
namespace Go.Proofs.YtimjoejkjgklaaaGreatDoor
open Go.RowKit Dg
theorem sgn_three (s : Bool) (n : Nat) : sgn s n = -1 ∨ sgn s n = 0 ∨ sgn s n = 1 := by
  unfold sgn
  repeat' split
  all_goals simp
theorem sgn_sv {s : Bool} {n : Nat} (h : n = 0 → s = false) : (sgn s n = -1 ↔ sv s n < 0) ∧ (sgn s n = 0 ↔ sv s n = 0) ∧ (sgn s n = 1 ↔ 0 < sv s n) := by
  unfold sgn sv
  cases s
  · by_cases h0 : n = 0
    · subst h0; simp
    · have hp : (0 : Int) < n := by omega
      rw [if_neg h0]
      simp only [Bool.false_eq_true, if_false]
      refine ⟨⟨fun h => ?_, fun h => ?_⟩, ⟨fun h => ?_, fun h => ?_⟩, ⟨fun h => ?_, fun h => ?_⟩⟩ <;> first | exact trivial | omega
  · have h0 : n ≠ 0 := fun e => absurd (h e) (by decide)
    have hp : (0 : Int) < n := by omega
    simp only [if_true]
    refine ⟨⟨fun h => ?_, fun h => ?_⟩, ⟨fun h => ?_, fun h => ?_⟩, ⟨fun h => ?_, fun h => ?_⟩⟩ <;> first | exact trivial | omega
theorem sgn_mono {a b : Bool × Nat × Nat} (ha : IsFr a) (hb : IsFr b) (h : fcmp a b ≤ 0) : sgn a.1 a.2.1 ≤ sgn b.1 b.2.1 := by
  rw [fcmp_nonpos] at h
  have h1 := sgn_sv ha.zs
  have h2 := sgn_sv hb.zs
  have hp : (0 : Int) < a.2.2 := by have := ha.pos; omega
  have hq : (0 : Int) < b.2.2 := by have := hb.pos; omega
  have t1 := sgn_three a.1 a.2.1
  have t2 := sgn_three b.1 b.2.1
  generalize sgn a.1 a.2.1 = A at *
  generalize sgn b.1 b.2.1 = B at *
  generalize sv a.1 a.2.1 = x at *
  generalize sv b.1 b.2.1 = y at *
  generalize (a.2.2 : Int) = p at *
  generalize (b.2.2 : Int) = q at *
  have k1 : y < 0 → x < 0 := by
    intro hy
    have e1 := Int.mul_neg_of_neg_of_pos hy hp
    by_cases hx : x < 0
    · exact hx
    · have e2 := Int.mul_nonneg (a := x) (b := q) (by omega) (by omega)
      omega
  have k2 : y ≤ 0 → x ≤ 0 := by
    intro hy
    have e1 := Int.mul_le_mul_of_nonneg_right hy (Int.le_of_lt hp)
    rw [Int.zero_mul] at e1
    by_cases hx : x ≤ 0
    · exact hx
    · have e2 := Int.mul_pos (a := x) (b := q) (by omega) hq
      omega
  omega
theorem empty_same (a b : Bool × Nat × Nat) (x y : Bool) : (srd (a, b, x, y)).2.2 = (jof (a, b, x, y)).2.2.2.2 := by
  cases he : (srd (a, b, x, y)).2.2
  · rw [jof_in he]
  · rw [jof_out he]; rfl
theorem bounded_same (a b : Bool × Nat × Nat) (x y : Bool) : sbd (srd (a, b, x, y)) = jfin (jof (a, b, x, y)) := by
  cases he : (srd (a, b, x, y)).2.2
  · rw [jof_in he]
    cases x <;> cases y <;> rfl
  · rw [jof_out he]
    cases x <;> cases y
    · rfl
    all_goals exact absurd he (by unfold srd sfrom ecmp rdE cmpI; simp)
theorem sign_same (a b : Bool × Nat × Nat) (x y : Bool) : ssgn (srd (a, b, x, y)) = jsg (jof (a, b, x, y)) := by
  unfold ssgn
  cases he : (srd (a, b, x, y)).2.2
  · rw [jof_in he]
    show ssg false (esgn (rdE x (-1) a)) (esgn (rdE y 1 b)) = sgo x y _ _
    cases x <;> cases y
    · have e : (srd (a, b, false, false)).2.2 = decide (0 < fcmp (fr a) (fr b)) := by
        show decide (0 < ecmp (0, fr a) (0, fr b)) = _
        rw [show ecmp (0, fr a) (0, fr b) = fcmp (fr a) (fr b) by unfold ecmp; simp]
      rw [e] at he
      have hle : fcmp (fr a) (fr b) ≤ 0 := by have := of_decide_eq_false he; omega
      have hm := sgn_mono (IsFr.fr a) (IsFr.fr b) hle
      show ssg false (sgn (fr a).1 (fr a).2.1) (sgn (fr b).1 (fr b).2.1) = sgo false false (sgn (fr a).1 (fr a).2.1) (sgn (fr b).1 (fr b).2.1)
      rcases sgn_three (fr a).1 (fr a).2.1 with h | h | h <;> rcases sgn_three (fr b).1 (fr b).2.1 with h' | h' | h'
      all_goals
        rw [h, h'] at hm ⊢
        first | rfl | exact absurd hm (by decide)
    · show ssg false (sgn (fr a).1 (fr a).2.1) 1 = sgo false true (sgn (fr a).1 (fr a).2.1) 0
      rcases sgn_three (fr a).1 (fr a).2.1 with h | h | h <;> rw [h] <;> rfl
    · show ssg false (-1) (sgn (fr b).1 (fr b).2.1) = sgo true false 0 (sgn (fr b).1 (fr b).2.1)
      rcases sgn_three (fr b).1 (fr b).2.1 with h | h | h <;> rw [h] <;> rfl
    · rfl
  · rw [jof_out he]
    rfl
end Go.Proofs.YtimjoejkjgklaaaGreatDoor
namespace Go.Proofs.YtimjoejkjgklaaaGreatDoor
open Go.RowKit Dg
theorem IntervalCanons_iv (s1 : Bool) (p1 : Option Addr) (k1 c1 : Nat) (q1 : Option Addr) (l1 d1 : Nat) (sz1 : Bool) (pz1 : Option Addr) (kz1 cz1 : Nat) (qz1 : Option Addr) (lz1 dz1 : Nat) (x1 : Bool) (y1 : Bool) (a b : Bool × Nat × Nat) (w : World) (ha : NRep w (.agg #[.bool s1, .slice p1 k1 c1, .slice q1 l1 d1]) a) (hb : NRep w (.agg #[.bool sz1, .slice pz1 kz1 cz1, .slice qz1 lz1 dz1]) b) (ht : TabOk w) :
    Calls Tryz.prog 3 #[.agg #[.bool s1, .slice p1 k1 c1, .slice q1 l1 d1, .bool sz1, .slice pz1 kz1 cz1, .slice qz1 lz1 dz1, .bool x1, .bool y1]] w fun e w' => e = .returned (.bool true) ∧ Below w.heap.size w w' := by
  have HP0 := hid (fun (W : World) (hW : Below w.heap.size w W) => iCanon_any s1 p1 k1 c1 q1 l1 d1 sz1 pz1 kz1 cz1 qz1 lz1 dz1 x1 y1 a b W (ha.below hW) (hb.below hW) (ht.below hW))
  have HR0 := hid (fun (W : World) (hW : Below w.heap.size w W) => jCanon_any s1 p1 k1 c1 q1 l1 d1 sz1 pz1 kz1 cz1 qz1 lz1 dz1 x1 y1 a b W (ha.below hW) (hb.below hW))
  rw [can_eq] at HR0
  have HI0 := hid (fun (W : World) (s5 : Bool) (p5 : Option Addr) (k5 c5 : Nat) (q5 : Option Addr) (l5 d5 : Nat) (sz5 : Bool) (pz5 : Option Addr) (kz5 cz5 : Nat) (qz5 : Option Addr) (lz5 dz5 : Nat) (x5 : Bool) (y5 : Bool) (s6 : Bool) (p6 : Option Addr) (k6 c6 : Nat) (q6 : Option Addr) (l6 d6 : Nat) (sz6 : Bool) (pz6 : Option Addr) (kz6 cz6 : Nat) (qz6 : Option Addr) (lz6 dz6 : Nat) (x6 : Bool) (y6 : Bool) (h : GRep W (.agg #[.bool s5, .slice p5 k5 c5, .slice q5 l5 d5, .bool sz5, .slice pz5 kz5 cz5, .slice qz5 lz5 dz5, .bool x5, .bool y5]) (ican (a, b, x1, y1))) (h' : GRep W (.agg #[.bool s6, .slice p6 k6 c6, .slice q6 l6 d6, .bool sz6, .slice pz6 kz6 cz6, .slice qz6 lz6 dz6, .bool x6, .bool y6]) (ican (a, b, x1, y1))) => is3_any s5 p5 k5 c5 q5 l5 d5 sz5 pz5 kz5 cz5 qz5 lz5 dz5 x5 y5 s6 p6 k6 c6 q6 l6 d6 sz6 pz6 kz6 cz6 qz6 lz6 dz6 x6 y6 (icode (a, b, x1, y1)) _ W (ican_ok a b x1 y1) (ican_err a b x1 y1) h h')
  have HP1 := hid (fun (W : World) (hW : Below w.heap.size w W) => iIsEmpty_any s1 p1 k1 c1 q1 l1 d1 sz1 pz1 kz1 cz1 qz1 lz1 dz1 x1 y1 a b W (ha.below hW) (hb.below hW) (ht.below hW))
  have HR1 := hid (fun (W : World) (hW : Below w.heap.size w W) => jIsEmpty_any s1 p1 k1 c1 q1 l1 d1 sz1 pz1 kz1 cz1 qz1 lz1 dz1 x1 y1 a b W (ha.below hW) (hb.below hW))
  have HP2 := hid (fun (W : World) (hW : Below w.heap.size w W) => iBounded_any s1 p1 k1 c1 q1 l1 d1 sz1 pz1 kz1 cz1 qz1 lz1 dz1 x1 y1 a b W (ha.below hW) (hb.below hW) (ht.below hW))
  have HR2 := hid (fun (W : World) (hW : Below w.heap.size w W) => jBounded_any s1 p1 k1 c1 q1 l1 d1 sz1 pz1 kz1 cz1 qz1 lz1 dz1 x1 y1 a b W (ha.below hW) (hb.below hW))
  have HP3 := hid (fun (W : World) (hW : Below w.heap.size w W) => iSign_any s1 p1 k1 c1 q1 l1 d1 sz1 pz1 kz1 cz1 qz1 lz1 dz1 x1 y1 a b W (ha.below hW) (hb.below hW) (ht.below hW))
  have HR3 := hid (fun (W : World) (hW : Below w.heap.size w W) => jSign_any s1 p1 k1 c1 q1 l1 d1 sz1 pz1 kz1 cz1 qz1 lz1 dz1 x1 y1 a b W (ha.below hW) (hb.below hW))
  rw [← empty_same] at HR1
  rw [← bounded_same] at HR2
  rw [← sign_same] at HR3
  have HA := hid (fun (W : World) (hW : Below w.heap.size w W) => awake3_any W (ht.below hW))
  clear ha hb ht
  obtain ⟨c0, hc0⟩ : ∃ r, r = icode (a, b, x1, y1) := ⟨_, rfl⟩
  obtain ⟨D0, hD0⟩ : ∃ r, r = ican (a, b, x1, y1) := ⟨_, rfl⟩
  rw [← hc0, ← hD0] at HP0 HR0 HI0
  obtain ⟨v1, hv1⟩ : ∃ r, r = (if ilarge (a, b, x1, y1) then false else (srd (a, b, x1, y1)).2.2) := ⟨_, rfl⟩
  obtain ⟨v2, hv2⟩ : ∃ r, r = (if ilarge (a, b, x1, y1) then false else sbd (srd (a, b, x1, y1))) := ⟨_, rfl⟩
  obtain ⟨v3, hv3⟩ : ∃ r, r = (if ilarge (a, b, x1, y1) then 0 else ssgn (srd (a, b, x1, y1))) := ⟨_, rfl⟩
  rw [← hc0, ← hv1] at HR1
  rw [← hc0, ← hv2] at HP2 HR2
  rw [← hc0, ← hv3] at HP3 HR3
  replace HP1 : Hid (∀ (W : World), Below w.heap.size w W → Calls Tryz.prog 12 #[.agg #[.bool s1, .slice p1 k1 c1, .slice q1 l1 d1, .bool sz1, .slice pz1 kz1 cz1, .slice qz1 lz1 dz1, .bool x1, .bool y1]] W fun e w' => e = .returned (.tuple #[.bool v1, .int .i64 c0]) ∧ Below W.heap.size W w') := by rw [hv1, hc0]; exact HP1
  clear hD0 hc0 hv1 hv2 hv3
  have q3 : (v3 == v3) = true := by simp
  have qc : (c0 == c0) = true := by simp
  go_enter Tryz.func3, Tryz.ntmps3
  go_wp2_with fail
  have HV := hid (pre1 w [.bool s1, .slice p1 k1 c1, .slice q1 l1 d1, .bool sz1, .slice pz1 kz1 cz1, .slice qz1 lz1 dz1, .bool x1, .bool y1] 26 nd8)
  generalize w.alloc (.cells #[.bool s1, .slice p1 k1 c1, .slice q1 l1 d1, .bool sz1, .slice pz1 kz1 cz1, .slice qz1 lz1 dz1, .bool x1, .bool y1] 26) = W0 at *
  have HB0 := hid (HV.out.2)
  have Hx0 := hid (HV.out.1)
  clear HV
  refine (HP0.out _ (HB0.out)).mono ?_
  rintro e w11 ⟨s11, p11, k11, c11, q11, l11, d11, sz11, pz11, kz11, cz11, qz11, lz11, dz11, x11, y11, rfl, hG11, hB11⟩
  have Hs1_x0 := hid ((Hx0.out).below hB11)
  have HB1 := hid ((HB0.out).trans ((hB11).mono (HB0.out).size))
  go_upto_region 2 with fail
  have HX11 := hid (pre1 w11 [.bool s11, .slice p11 k11 c11, .slice q11 l11 d11, .bool sz11, .slice pz11 kz11 cz11, .slice qz11 lz11 dz11, .bool x11, .bool y11] 26 nd8)
  have hlt11_x0 := (Hs1_x0.out).lt
  generalize w11.alloc (.cells #[.bool s11, .slice p11 k11 c11, .slice q11 l11 d11, .bool sz11, .slice pz11 kz11 cz11, .slice qz11 lz11 dz11, .bool x11, .bool y11] 26) = W11 at *
  have Hs2_x0 := hid ((Hs1_x0.out).below HX11.out.2)
  have Hs2_g11 := hid ((hG11.out).below HX11.out.2)
  have HB2 := hid ((HB1.out).trans ((HX11.out.2).mono (HB1.out).size))
  have Hb11 := hid HX11.out.1
  obtain ⟨m0_0, m0_1, m0_2, m0_3, m0_4, m0_5, m0_6, m0_7, _⟩ := (Hs2_x0.out).cells8
  obtain ⟨m1_0, m1_1, m1_2, m1_3, m1_4, m1_5, m1_6, m1_7, _⟩ := (Hb11.out).cells8
  go_wp2_with fail
  refine (HR0.out _ (HB2.out)).mono ?_
  rintro e w12 ⟨s12, p12, k12, c12, q12, l12, d12, sz12, pz12, kz12, cz12, qz12, lz12, dz12, x12, y12, rfl, hG12, hB12⟩
  clear m0_0 m0_1 m0_2 m0_3 m0_4 m0_5 m0_6 m0_7 m1_0 m1_1 m1_2 m1_3 m1_4 m1_5 m1_6 m1_7
  have Hs3_x0 := hid ((Hs2_x0.out).below hB12)
  have Hs3_g11 := hid ((Hs2_g11.out).below hB12)
  have Hs3_b11 := hid ((Hb11.out).below hB12)
  have HB3 := hid ((HB2.out).trans ((hB12).mono (HB2.out).size))
  go_upto_region 3 with fail
  have HX12 := hid (pre1 w12 [.bool s12, .slice p12 k12 c12, .slice q12 l12 d12, .bool sz12, .slice pz12 kz12 cz12, .slice qz12 lz12 dz12, .bool x12, .bool y12] 26 nd8)
  have hlt12_x0 := (Hs3_x0.out).lt
  have hlt12_b11 := (Hs3_b11.out).lt
  generalize w12.alloc (.cells #[.bool s12, .slice p12 k12 c12, .slice q12 l12 d12, .bool sz12, .slice pz12 kz12 cz12, .slice qz12 lz12 dz12, .bool x12, .bool y12] 26) = W12 at *
  have Hs4_x0 := hid ((Hs3_x0.out).below HX12.out.2)
  have Hs4_g11 := hid ((Hs3_g11.out).below HX12.out.2)
  have Hs4_b11 := hid ((Hs3_b11.out).below HX12.out.2)
  have Hs4_g12 := hid ((hG12.out).below HX12.out.2)
  have HB4 := hid ((HB3.out).trans ((HX12.out.2).mono (HB3.out).size))
  have Hs4_b12 := hid HX12.out.1
  obtain ⟨m0_0, m0_1, m0_2, m0_3, m0_4, m0_5, m0_6, m0_7, _⟩ := (Hs4_x0.out).cells8
  go_wp2_with fail
  refine (HP1.out _ (HB4.out)).mono ?_
  rintro e w20 ⟨rfl, hB20⟩
  clear m0_0 m0_1 m0_2 m0_3 m0_4 m0_5 m0_6 m0_7
  have Hs5_x0 := hid ((Hs4_x0.out).below hB20)
  have Hs5_g11 := hid ((Hs4_g11.out).below hB20)
  have Hs5_b11 := hid ((Hs4_b11.out).below hB20)
  have Hs5_g12 := hid ((Hs4_g12.out).below hB20)
  have Hs5_b12 := hid ((Hs4_b12.out).below hB20)
  have HB5 := hid ((HB4.out).trans ((hB20).mono (HB4.out).size))
  obtain ⟨m0_0, m0_1, m0_2, m0_3, m0_4, m0_5, m0_6, m0_7, _⟩ := (Hs5_x0.out).cells8
  go_wp2_with fail
  refine (HR1.out _ (HB5.out)).mono ?_
  rintro e w21 ⟨rfl, hB21⟩
  clear m0_0 m0_1 m0_2 m0_3 m0_4 m0_5 m0_6 m0_7
  have Hs6_x0 := hid ((Hs5_x0.out).below hB21)
  have Hs6_g11 := hid ((Hs5_g11.out).below hB21)
  have Hs6_b11 := hid ((Hs5_b11.out).below hB21)
  have Hs6_g12 := hid ((Hs5_g12.out).below hB21)
  have Hs6_b12 := hid ((Hs5_b12.out).below hB21)
  have HB6 := hid ((HB5.out).trans ((hB21).mono (HB5.out).size))
  obtain ⟨m0_0, m0_1, m0_2, m0_3, m0_4, m0_5, m0_6, m0_7, _⟩ := (Hs6_x0.out).cells8
  go_wp2_with fail
  refine (HP2.out _ (HB6.out)).mono ?_
  rintro e w22 ⟨rfl, hB22⟩
  clear m0_0 m0_1 m0_2 m0_3 m0_4 m0_5 m0_6 m0_7
  have Hs7_x0 := hid ((Hs6_x0.out).below hB22)
  have Hs7_g11 := hid ((Hs6_g11.out).below hB22)
  have Hs7_b11 := hid ((Hs6_b11.out).below hB22)
  have Hs7_g12 := hid ((Hs6_g12.out).below hB22)
  have Hs7_b12 := hid ((Hs6_b12.out).below hB22)
  have HB7 := hid ((HB6.out).trans ((hB22).mono (HB6.out).size))
  obtain ⟨m0_0, m0_1, m0_2, m0_3, m0_4, m0_5, m0_6, m0_7, _⟩ := (Hs7_x0.out).cells8
  go_wp2_with fail
  refine (HR2.out _ (HB7.out)).mono ?_
  rintro e w23 ⟨rfl, hB23⟩
  clear m0_0 m0_1 m0_2 m0_3 m0_4 m0_5 m0_6 m0_7
  have Hs8_x0 := hid ((Hs7_x0.out).below hB23)
  have Hs8_g11 := hid ((Hs7_g11.out).below hB23)
  have Hs8_b11 := hid ((Hs7_b11.out).below hB23)
  have Hs8_g12 := hid ((Hs7_g12.out).below hB23)
  have Hs8_b12 := hid ((Hs7_b12.out).below hB23)
  have HB8 := hid ((HB7.out).trans ((hB23).mono (HB7.out).size))
  obtain ⟨m0_0, m0_1, m0_2, m0_3, m0_4, m0_5, m0_6, m0_7, _⟩ := (Hs8_x0.out).cells8
  go_wp2_with fail
  refine (HP3.out _ (HB8.out)).mono ?_
  rintro e w24 ⟨rfl, hB24⟩
  clear m0_0 m0_1 m0_2 m0_3 m0_4 m0_5 m0_6 m0_7
  have Hs9_x0 := hid ((Hs8_x0.out).below hB24)
  have Hs9_g11 := hid ((Hs8_g11.out).below hB24)
  have Hs9_b11 := hid ((Hs8_b11.out).below hB24)
  have Hs9_g12 := hid ((Hs8_g12.out).below hB24)
  have Hs9_b12 := hid ((Hs8_b12.out).below hB24)
  have HB9 := hid ((HB8.out).trans ((hB24).mono (HB8.out).size))
  obtain ⟨m0_0, m0_1, m0_2, m0_3, m0_4, m0_5, m0_6, m0_7, _⟩ := (Hs9_x0.out).cells8
  go_wp2_with fail
  refine (HR3.out _ (HB9.out)).mono ?_
  rintro e w25 ⟨rfl, hB25⟩
  clear m0_0 m0_1 m0_2 m0_3 m0_4 m0_5 m0_6 m0_7
  have Hs10_x0 := hid ((Hs9_x0.out).below hB25)
  have Hs10_g11 := hid ((Hs9_g11.out).below hB25)
  have Hs10_b11 := hid ((Hs9_b11.out).below hB25)
  have Hs10_g12 := hid ((Hs9_g12.out).below hB25)
  have Hs10_b12 := hid ((Hs9_b12.out).below hB25)
  have HB10 := hid ((HB9.out).trans ((hB25).mono (HB9.out).size))
  obtain ⟨m1_0, m1_1, m1_2, m1_3, m1_4, m1_5, m1_6, m1_7, _⟩ := (Hs10_b11.out).cells8
  obtain ⟨m2_0, m2_1, m2_2, m2_3, m2_4, m2_5, m2_6, m2_7, _⟩ := (Hs10_b12.out).cells8
  go_wp2_with fail
  refine (HI0.out _ s11 p11 k11 c11 q11 l11 d11 sz11 pz11 kz11 cz11 qz11 lz11 dz11 x11 y11 s12 p12 k12 c12 q12 l12 d12 sz12 pz12 kz12 cz12 qz12 lz12 dz12 x12 y12 Hs10_g11.out Hs10_g12.out).mono ?_
  rintro e w30 ⟨rfl, hB30⟩
  clear m1_0 m1_1 m1_2 m1_3 m1_4 m1_5 m1_6 m1_7 m2_0 m2_1 m2_2 m2_3 m2_4 m2_5 m2_6 m2_7
  have HZ0 := hid ((HB10.out).trans ((hB30).mono (HB10.out).size))
  clear hG11 hG12
  go_wp2_with fail
  refine (yes_same v1 c0 _).mono ?_
  rintro e w31 ⟨rfl, rfl⟩
  go_wp2_with fail
  refine (yes_same v2 c0 _).mono ?_
  rintro e w32 ⟨rfl, rfl⟩
  go_wp2_with fail
  refine (HA.out _ HZ0.out).mono ?_
  rintro e w33 ⟨rfl, hB33⟩
  have HZ1 := hid ((HZ0.out).trans (hB33.mono (HZ0.out).size))
  go_wp2_with fail
  go_ret
  exact ⟨rfl, HZ1.out⟩
theorem IntervalCanons_any (v : Value) (i : (Bool × Nat × Nat) × (Bool × Nat × Nat) × Bool × Bool) (w : World) (ha : IRep w v i) (ht : TabOk w) :
    Calls Tryz.prog 3 #[v] w fun e w' => e = .returned (.bool true) ∧ Below w.heap.size w w' := by
  obtain ⟨s1, p1, k1, c1, q1, l1, d1, sz1, pz1, kz1, cz1, qz1, lz1, dz1, x1, y1, rfl, h1, h2, rfl, rfl⟩ := ha
  exact IntervalCanons_iv s1 p1 k1 c1 q1 l1 d1 sz1 pz1 kz1 cz1 qz1 lz1 dz1 _ _ i.1 i.2.1 w h1 h2 ht
end Go.Proofs.YtimjoejkjgklaaaGreatDoor
