/- Add and Sub of the reference. Add and Sub of both sides. The law IntervalAdds. -/
import Derived.Test.YtpdpabpdejmdbaaGreatDoorPlsK
import Derived.Test.YtpdpabpdejmdbaaGreatDoorAwkI
set_option maxHeartbeats 8000000
set_option maxRecDepth 100000
namespace Go.Proofs.YtpdpabpdejmdbaaGreatDoor
open Go.RowKit Dg
theorem pre2_of {w W0 : World} {l1 l2 : List Value} {t1 t2 : Nat} (h : (w.alloc (.cells l1.toArray t1)).alloc (.cells l2.toArray t2) = W0) (h1 : NDs l1) (h2 : NDs l2) :
  Box W0 w.heap.size l1.toArray ∧ Box W0 (w.heap.size + 1) l2.toArray ∧ Below w.heap.size w W0 := by
 subst h
 exact pre2 w l1 l2 t1 t2 h1 h2
theorem jAdd_ret {W : World} {B : Nat} {a0 a1 a2 a3 a4 a5 a6 a7 ev : Value} {tm : Array Value} {R : Ending → World → Prop} (h2 : tm[6]?.getD undef = .pointer (some ⟨B, 0, none⟩)) (h3 : tm[7]?.getD undef = ev) (hV : Box W B #[a0, a1, a2, a3, a4, a5, a6, a7]) (hR : R (.returned (.tuple #[.agg #[a0, a1, a2, a3, a4, a5, a6, a7], ev])) W) :
  bodyPost Tryz.prog Tryz.f54 R .ret { tmps := tm, defers := [] } W := by
 obtain ⟨g0, g1, g2, g3, g4, g5, g6, g7, _⟩ := hV.cells8
 exact bodyPost_ret (v := .tuple #[.agg #[a0, a1, a2, a3, a4, a5, a6, a7], ev]) (by simp [results, Tryz.results54, go_sem, h2, h3, g0, g1, g2, g3, g4, g5, g6, g7]) rfl hR
theorem jAdd_err (s1 : Bool) (p1 : Option Addr) (k1 c1 : Nat) (q1 : Option Addr) (l1 d1 : Nat) (sz1 : Bool) (pz1 : Option Addr) (kz1 cz1 : Nat) (qz1 : Option Addr) (lz1 dz1 : Nat) (x1 : Bool) (y1 : Bool) (s2 : Bool) (p2 : Option Addr) (k2 c2 : Nat) (q2 : Option Addr) (l2 d2 : Nat) (sz2 : Bool) (pz2 : Option Addr) (kz2 cz2 : Nat) (qz2 : Option Addr) (lz2 dz2 : Nat) (x2 : Bool) (y2 : Bool) (p c : Int) (w : World) (hc : c = 1 ∨ c = 2)
  (ho : ∀ W, Below w.heap.size w W → Calls Tryz.prog 92 #[.agg #[.bool s1, .slice p1 k1 c1, .slice q1 l1 d1, .bool sz1, .slice pz1 kz1 cz1, .slice qz1 lz1 dz1, .bool x1, .bool y1], .agg #[.bool s2, .slice p2 k2 c2, .slice q2 l2 d2, .bool sz2, .slice pz2 kz2 cz2, .slice qz2 lz2 dz2, .bool x2, .bool y2], .int .i64 p] W fun e w' => e = .returned (.tuple #[.agg #[.bool false, .slice none 0 0, .slice none 0 0, .bool false, .slice none 0 0, .slice none 0 0, .bool false, .bool false, .bool false], .agg #[.bool false, .slice none 0 0, .slice none 0 0, .bool false, .slice none 0 0, .slice none 0 0, .bool false, .bool false, .bool false], .int .i64 c]) ∧ Below W.heap.size W w') :
  Calls Tryz.prog 54 #[.agg #[.bool s1, .slice p1 k1 c1, .slice q1 l1 d1, .bool sz1, .slice pz1 kz1 cz1, .slice qz1 lz1 dz1, .bool x1, .bool y1], .agg #[.bool s2, .slice p2 k2 c2, .slice q2 l2 d2, .bool sz2, .slice pz2 kz2 cz2, .slice qz2 lz2 dz2, .bool x2, .bool y2], .int .i64 p] w fun e w' => ∃ s5 p5 k5 c5 q5 l5 d5 sz5 pz5 kz5 cz5 qz5 lz5 dz5 x5 y5, e = .returned (.tuple #[.agg #[.bool s5, .slice p5 k5 c5, .slice q5 l5 d5, .bool sz5, .slice pz5 kz5 cz5, .slice qz5 lz5 dz5, .bool x5, .bool y5], .int .i64 c]) ∧ Hid (GRep w' (.agg #[.bool s5, .slice p5 k5 c5, .slice q5 l5 d5, .bool sz5, .slice pz5 kz5 cz5, .slice qz5 lz5 dz5, .bool x5, .bool y5]) gzero) ∧ Below w.heap.size w w' := by
 have HL := hid ho
 clear ho
 rcases hc with rfl | rfl
 all_goals
  go_enter Tryz.func54, Tryz.ntmps54
  go_wp2_with fail
  have HV := hid (pre3 w [.bool s1, .slice p1 k1 c1, .slice q1 l1 d1, .bool sz1, .slice pz1 kz1 cz1, .slice qz1 lz1 dz1, .bool x1, .bool y1] [.bool s2, .slice p2 k2 c2, .slice q2 l2 d2, .bool sz2, .slice pz2 kz2 cz2, .slice qz2 lz2 dz2, .bool x2, .bool y2] [.bool false, .slice none 0 0, .slice none 0 0, .bool false, .slice none 0 0, .slice none 0 0, .bool false, .bool false] 26 26 26 nd8 nd8 nd8)
  generalize ((w.alloc (.cells #[.bool s1, .slice p1 k1 c1, .slice q1 l1 d1, .bool sz1, .slice pz1 kz1 cz1, .slice qz1 lz1 dz1, .bool x1, .bool y1] 26)).alloc (.cells #[.bool s2, .slice p2 k2 c2, .slice q2 l2 d2, .bool sz2, .slice pz2 kz2 cz2, .slice qz2 lz2 dz2, .bool x2, .bool y2] 26)).alloc (.cells #[.bool false, .slice none 0 0, .slice none 0 0, .bool false, .slice none 0 0, .slice none 0 0, .bool false, .bool false] 26) = W0 at *
  refine (HL.out _ HV.out.2.2.2).mono ?_
  rintro e w1 ⟨rfl, hB1⟩
  have HE := hid (And.intro (HV.out.2.2.1.below hB1) (HV.out.2.2.2.trans (hB1.mono HV.out.2.2.2.size)))
  clear hB1
  go_upto_region 3 with fail
  have hlt := HE.out.1.lt
  generalize hA : World.alloc _ _ = W1
  have HX : Hid (Below w1.heap.size w1 W1) := hid (by rw [← hA]; exact ((Below.refl _ _).alloc (Nat.le_refl _) _).alloc (by simp) _)
  clear hA
  have HE2 := hid (And.intro (HE.out.1.below HX.out) (HE.out.2.trans (HX.out.mono HE.out.2.size)))
  obtain ⟨g0, g1, g2, g3, g4, g5, g6, g7, f0, f1, f2, f3, f4, f5, f6, f7⟩ := HE2.out.1.cells8
  go_wp2_with fail
  exact jAdd_ret rfl rfl (HE2.out.1.stores [.bool false, .slice none 0 0, .slice none 0 0, .bool false, .slice none 0 0, .slice none 0 0, .bool false, .bool false] rfl nd8) ⟨_, _, _, _, _, _, _, _, _, _, _, _, _, _, _, _, rfl, hid (GRep.stores (k := 0) (l := [.bool false, .slice none 0 0, .slice none 0 0, .bool false, .slice none 0 0, .slice none 0 0, .bool false, .bool false]) (GRep.zero W1) HE2.out.1 nd8), Below.stores (k := 0) (l := [.bool false, .slice none 0 0, .slice none 0 0, .bool false, .slice none 0 0, .slice none 0 0, .bool false, .bool false]) HE2.out.2 (by omega)⟩
theorem jAdd_ok (s1 : Bool) (p1 : Option Addr) (k1 c1 : Nat) (q1 : Option Addr) (l1 d1 : Nat) (sz1 : Bool) (pz1 : Option Addr) (kz1 cz1 : Nat) (qz1 : Option Addr) (lz1 dz1 : Nat) (x1 : Bool) (y1 : Bool) (s2 : Bool) (p2 : Option Addr) (k2 c2 : Nat) (q2 : Option Addr) (l2 d2 : Nat) (sz2 : Bool) (pz2 : Option Addr) (kz2 cz2 : Nat) (qz2 : Option Addr) (lz2 dz2 : Nat) (x2 : Bool) (y2 : Bool) (J K : (Bool × Nat × Nat) × (Bool × Nat × Nat) × Bool × Bool × Bool) (pr : Nat) (w : World) (hJ : JGood J) (hK : JGood K) (hp : pr ≤ 128)
  (ho : ∀ W, Below w.heap.size w W → Calls Tryz.prog 92 #[.agg #[.bool s1, .slice p1 k1 c1, .slice q1 l1 d1, .bool sz1, .slice pz1 kz1 cz1, .slice qz1 lz1 dz1, .bool x1, .bool y1], .agg #[.bool s2, .slice p2 k2 c2, .slice q2 l2 d2, .bool sz2, .slice pz2 kz2 cz2, .slice qz2 lz2 dz2, .bool x2, .bool y2], .int .i64 (pr : Int)] W fun e w' => ∃ s3 p3 k3 c3 q3 l3 d3 sz3 pz3 kz3 cz3 qz3 lz3 dz3 x3 y3 e3 s4 p4 k4 c4 q4 l4 d4 sz4 pz4 kz4 cz4 qz4 lz4 dz4 x4 y4 e4, e = .returned (.tuple #[.agg #[.bool s3, .slice p3 k3 c3, .slice q3 l3 d3, .bool sz3, .slice pz3 kz3 cz3, .slice qz3 lz3 dz3, .bool x3, .bool y3, .bool e3], .agg #[.bool s4, .slice p4 k4 c4, .slice q4 l4 d4, .bool sz4, .slice pz4 kz4 cz4, .slice qz4 lz4 dz4, .bool x4, .bool y4, .bool e4], .int .i64 0]) ∧ Hid (JRep w' (.agg #[.bool s3, .slice p3 k3 c3, .slice q3 l3 d3, .bool sz3, .slice pz3 kz3 cz3, .slice qz3 lz3 dz3, .bool x3, .bool y3, .bool e3]) J) ∧ Hid (JRep w' (.agg #[.bool s4, .slice p4 k4 c4, .slice q4 l4 d4, .bool sz4, .slice pz4 kz4 cz4, .slice qz4 lz4 dz4, .bool x4, .bool y4, .bool e4]) K) ∧ Below W.heap.size W w') :
  Calls Tryz.prog 54 #[.agg #[.bool s1, .slice p1 k1 c1, .slice q1 l1 d1, .bool sz1, .slice pz1 kz1 cz1, .slice qz1 lz1 dz1, .bool x1, .bool y1], .agg #[.bool s2, .slice p2 k2 c2, .slice q2 l2 d2, .bool sz2, .slice pz2 kz2 cz2, .slice qz2 lz2 dz2, .bool x2, .bool y2], .int .i64 (pr : Int)] w fun e w' => ∃ s5 p5 k5 c5 q5 l5 d5 sz5 pz5 kz5 cz5 qz5 lz5 dz5 x5 y5, e = .returned (.tuple #[.agg #[.bool s5, .slice p5 k5 c5, .slice q5 l5 d5, .bool sz5, .slice pz5 kz5 cz5, .slice qz5 lz5 dz5, .bool x5, .bool y5], .int .i64 (if jbig (jround (jplus J K) pr) then 1 else 0)]) ∧ Hid (GRep w' (.agg #[.bool s5, .slice p5 k5 c5, .slice q5 l5 d5, .bool sz5, .slice pz5 kz5 cz5, .slice qz5 lz5 dz5, .bool x5, .bool y5]) (if jbig (jround (jplus J K) pr) then gzero else japi (jround (jplus J K) pr))) ∧ Below w.heap.size w w' := by
 have HL := hid ho
 have HP := hid (fun (W : World) (s3 : Bool) (p3 : Option Addr) (k3 c3 : Nat) (q3 : Option Addr) (l3 d3 : Nat) (sz3 : Bool) (pz3 : Option Addr) (kz3 cz3 : Nat) (qz3 : Option Addr) (lz3 dz3 : Nat) (x3 : Bool) (y3 : Bool) (e3 : Bool) (s4 : Bool) (p4 : Option Addr) (k4 c4 : Nat) (q4 : Option Addr) (l4 d4 : Nat) (sz4 : Bool) (pz4 : Option Addr) (kz4 cz4 : Nat) (qz4 : Option Addr) (lz4 dz4 : Nat) (x4 : Bool) (y4 : Bool) (e4 : Bool) (h : JRep W (.agg #[.bool s3, .slice p3 k3 c3, .slice q3 l3 d3, .bool sz3, .slice pz3 kz3 cz3, .slice qz3 lz3 dz3, .bool x3, .bool y3, .bool e3]) J) (h' : JRep W (.agg #[.bool s4, .slice p4 k4 c4, .slice q4 l4 d4, .bool sz4, .slice pz4 kz4 cz4, .slice qz4 lz4 dz4, .bool x4, .bool y4, .bool e4]) K) => jPlus_any s3 p3 k3 c3 q3 l3 d3 sz3 pz3 kz3 cz3 qz3 lz3 dz3 x3 y3 e3 s4 p4 k4 c4 q4 l4 d4 sz4 pz4 kz4 cz4 qz4 lz4 dz4 x4 y4 e4 _ _ W h h' hJ hK)
 have HM := hid (fun (W : World) (s3 : Bool) (p3 : Option Addr) (k3 c3 : Nat) (q3 : Option Addr) (l3 d3 : Nat) (sz3 : Bool) (pz3 : Option Addr) (kz3 cz3 : Nat) (qz3 : Option Addr) (lz3 dz3 : Nat) (x3 : Bool) (y3 : Bool) (e3 : Bool) (h : JRep W (.agg #[.bool s3, .slice p3 k3 c3, .slice q3 l3 d3, .bool sz3, .slice pz3 kz3 cz3, .slice qz3 lz3 dz3, .bool x3, .bool y3, .bool e3]) (jplus J K)) => jRounded_w s3 p3 k3 c3 q3 l3 d3 sz3 pz3 kz3 cz3 qz3 lz3 dz3 x3 y3 e3 _ pr W h (JW.plus (by omega) hJ hK) (by omega))
 have HA := hid (fun (W : World) (s3 : Bool) (p3 : Option Addr) (k3 c3 : Nat) (q3 : Option Addr) (l3 d3 : Nat) (sz3 : Bool) (pz3 : Option Addr) (kz3 cz3 : Nat) (qz3 : Option Addr) (lz3 dz3 : Nat) (x3 : Bool) (y3 : Bool) (e3 : Bool) (h : JRep W (.agg #[.bool s3, .slice p3 k3 c3, .slice q3 l3 d3, .bool sz3, .slice pz3 kz3 cz3, .slice qz3 lz3 dz3, .bool x3, .bool y3, .bool e3]) (jround (jplus J K) pr)) => jDone_any s3 p3 k3 c3 q3 l3 d3 sz3 pz3 kz3 cz3 qz3 lz3 dz3 x3 y3 e3 _ W h (JW.bd (JW.plus (by omega) hJ hK) hp))
 clear ho hJ hK hp
 obtain ⟨r, hr⟩ : ∃ r, r = jplus J K := ⟨_, rfl⟩
 rw [← hr] at HP HM HA ⊢
 clear hr
 obtain ⟨t, hr⟩ : ∃ t, t = jround r pr := ⟨_, rfl⟩
 rw [← hr] at HM HA ⊢
 clear hr
 obtain ⟨c, hr⟩ : ∃ c : Int, c = if jbig t then 1 else 0 := ⟨_, rfl⟩
 obtain ⟨D, hD⟩ : ∃ D, D = if jbig t then gzero else japi t := ⟨_, rfl⟩
 rw [← hr, ← hD] at HA ⊢
 clear hr hD
 obtain ⟨p, hp⟩ : ∃ pi : Int, pi = (pr : Int) := ⟨_, rfl⟩
 rw [← hp] at HL HM ⊢
 clear hp
 go_enter Tryz.func54, Tryz.ntmps54
 go_wp2_with fail
 have HV := hid (pre3 w [.bool s1, .slice p1 k1 c1, .slice q1 l1 d1, .bool sz1, .slice pz1 kz1 cz1, .slice qz1 lz1 dz1, .bool x1, .bool y1] [.bool s2, .slice p2 k2 c2, .slice q2 l2 d2, .bool sz2, .slice pz2 kz2 cz2, .slice qz2 lz2 dz2, .bool x2, .bool y2] [.bool false, .slice none 0 0, .slice none 0 0, .bool false, .slice none 0 0, .slice none 0 0, .bool false, .bool false] 26 26 26 nd8 nd8 nd8)
 generalize ((w.alloc (.cells #[.bool s1, .slice p1 k1 c1, .slice q1 l1 d1, .bool sz1, .slice pz1 kz1 cz1, .slice qz1 lz1 dz1, .bool x1, .bool y1] 26)).alloc (.cells #[.bool s2, .slice p2 k2 c2, .slice q2 l2 d2, .bool sz2, .slice pz2 kz2 cz2, .slice qz2 lz2 dz2, .bool x2, .bool y2] 26)).alloc (.cells #[.bool false, .slice none 0 0, .slice none 0 0, .bool false, .slice none 0 0, .slice none 0 0, .bool false, .bool false] 26) = W0 at *
 refine (HL.out _ HV.out.2.2.2).mono ?_
 rintro e w1 ⟨s3, p3, k3, c3, q3, l3, d3, sz3, pz3, kz3, cz3, qz3, lz3, dz3, x3, y3, e3, s4, p4, k4, c4, q4, l4, d4, sz4, pz4, kz4, cz4, qz4, lz4, dz4, x4, y4, e4, rfl, hJ, hK, hB1⟩
 have HE := hid (And.intro (HV.out.2.2.1.below hB1) (HV.out.2.2.2.trans (hB1.mono HV.out.2.2.2.size)))
 clear hB1
 go_upto_region 4 with fail
 have hlt := HE.out.1.lt
 generalize hA : World.alloc _ _ = W1
 have HX := hid (pre2_of hA nd_J nd_J)
 clear hA
 have HJ := hid (hJ.out.below HX.out.2.2)
 have HK := hid (hK.out.below HX.out.2.2)
 clear hJ hK
 have HE2 := hid (And.intro (HE.out.1.below HX.out.2.2) (HE.out.2.trans (HX.out.2.2.mono HE.out.2.size)))
 obtain ⟨m0, m1, m2, m3, m4, m5, m6, m7, m8, _⟩ := HX.out.1.cells9
 obtain ⟨n0, n1, n2, n3, n4, n5, n6, n7, n8, _⟩ := HX.out.2.1.cells9
 go_wp2_with fail
 refine (HP.out _ s3 p3 k3 c3 q3 l3 d3 sz3 pz3 kz3 cz3 qz3 lz3 dz3 x3 y3 e3 s4 p4 k4 c4 q4 l4 d4 sz4 pz4 kz4 cz4 qz4 lz4 dz4 x4 y4 e4 HJ.out HK.out).mono ?_
 rintro e w2 ⟨s7, p7, k7, c7, q7, l7, d7, sz7, pz7, kz7, cz7, qz7, lz7, dz7, x7, y7, e7, rfl, hM, hB2⟩
 have HE3 := hid (And.intro (HE2.out.1.below hB2) (HE2.out.2.trans (hB2.mono HE2.out.2.size)))
 clear hB2 m0 m1 m2 m3 m4 m5 m6 m7 m8 n0 n1 n2 n3 n4 n5 n6 n7 n8
 go_wp2_with fail
 refine (HM.out _ s7 p7 k7 c7 q7 l7 d7 sz7 pz7 kz7 cz7 qz7 lz7 dz7 x7 y7 e7 hM.out).mono ?_
 rintro e w3 ⟨s8, p8, k8, c8, q8, l8, d8, sz8, pz8, kz8, cz8, qz8, lz8, dz8, x8, y8, e8, rfl, hN, hB3⟩
 have HE4 := hid (And.intro (HE3.out.1.below hB3) (HE3.out.2.trans (hB3.mono HE3.out.2.size)))
 clear hB3
 go_wp2_with fail
 refine (HA.out _ s8 p8 k8 c8 q8 l8 d8 sz8 pz8 kz8 cz8 qz8 lz8 dz8 x8 y8 e8 hN.out).mono ?_
 rintro e w4 ⟨s5, p5, k5, c5, q5, l5, d5, sz5, pz5, kz5, cz5, qz5, lz5, dz5, x5, y5, rfl, hG, hB4⟩
 have HE5 := hid (And.intro (HE4.out.1.below hB4) (HE4.out.2.trans (hB4.mono HE4.out.2.size)))
 clear hB4
 obtain ⟨g0, g1, g2, g3, g4, g5, g6, g7, f0, f1, f2, f3, f4, f5, f6, f7⟩ := HE5.out.1.cells8
 go_wp2_with fail
 exact jAdd_ret rfl rfl (HE5.out.1.stores [.bool s5, .slice p5 k5 c5, .slice q5 l5 d5, .bool sz5, .slice pz5 kz5 cz5, .slice qz5 lz5 dz5, .bool x5, .bool y5] rfl nd8) ⟨s5, p5, k5, c5, q5, l5, d5, sz5, pz5, kz5, cz5, qz5, lz5, dz5, x5, y5, rfl, hid (GRep.stores (k := 0) (l := [.bool s5, .slice p5 k5 c5, .slice q5 l5 d5, .bool sz5, .slice pz5 kz5 cz5, .slice qz5 lz5 dz5, .bool x5, .bool y5]) hG.out HE5.out.1 nd8), Below.stores (k := 0) (l := [.bool s5, .slice p5 k5 c5, .slice q5 l5 d5, .bool sz5, .slice pz5 kz5 cz5, .slice qz5 lz5 dz5, .bool x5, .bool y5]) HE5.out.2 (by omega)⟩
theorem jSub_ret {W : World} {B : Nat} {a0 a1 a2 a3 a4 a5 a6 a7 ev : Value} {tm : Array Value} {R : Ending → World → Prop} (h2 : tm[6]?.getD undef = .pointer (some ⟨B, 0, none⟩)) (h3 : tm[7]?.getD undef = ev) (hV : Box W B #[a0, a1, a2, a3, a4, a5, a6, a7]) (hR : R (.returned (.tuple #[.agg #[a0, a1, a2, a3, a4, a5, a6, a7], ev])) W) :
  bodyPost Tryz.prog Tryz.f56 R .ret { tmps := tm, defers := [] } W := by
 obtain ⟨g0, g1, g2, g3, g4, g5, g6, g7, _⟩ := hV.cells8
 exact bodyPost_ret (v := .tuple #[.agg #[a0, a1, a2, a3, a4, a5, a6, a7], ev]) (by simp [results, Tryz.results56, go_sem, h2, h3, g0, g1, g2, g3, g4, g5, g6, g7]) rfl hR
theorem jSub_err (s1 : Bool) (p1 : Option Addr) (k1 c1 : Nat) (q1 : Option Addr) (l1 d1 : Nat) (sz1 : Bool) (pz1 : Option Addr) (kz1 cz1 : Nat) (qz1 : Option Addr) (lz1 dz1 : Nat) (x1 : Bool) (y1 : Bool) (s2 : Bool) (p2 : Option Addr) (k2 c2 : Nat) (q2 : Option Addr) (l2 d2 : Nat) (sz2 : Bool) (pz2 : Option Addr) (kz2 cz2 : Nat) (qz2 : Option Addr) (lz2 dz2 : Nat) (x2 : Bool) (y2 : Bool) (p c : Int) (w : World) (hc : c = 1 ∨ c = 2)
  (ho : ∀ W, Below w.heap.size w W → Calls Tryz.prog 92 #[.agg #[.bool s1, .slice p1 k1 c1, .slice q1 l1 d1, .bool sz1, .slice pz1 kz1 cz1, .slice qz1 lz1 dz1, .bool x1, .bool y1], .agg #[.bool s2, .slice p2 k2 c2, .slice q2 l2 d2, .bool sz2, .slice pz2 kz2 cz2, .slice qz2 lz2 dz2, .bool x2, .bool y2], .int .i64 p] W fun e w' => e = .returned (.tuple #[.agg #[.bool false, .slice none 0 0, .slice none 0 0, .bool false, .slice none 0 0, .slice none 0 0, .bool false, .bool false, .bool false], .agg #[.bool false, .slice none 0 0, .slice none 0 0, .bool false, .slice none 0 0, .slice none 0 0, .bool false, .bool false, .bool false], .int .i64 c]) ∧ Below W.heap.size W w') :
  Calls Tryz.prog 56 #[.agg #[.bool s1, .slice p1 k1 c1, .slice q1 l1 d1, .bool sz1, .slice pz1 kz1 cz1, .slice qz1 lz1 dz1, .bool x1, .bool y1], .agg #[.bool s2, .slice p2 k2 c2, .slice q2 l2 d2, .bool sz2, .slice pz2 kz2 cz2, .slice qz2 lz2 dz2, .bool x2, .bool y2], .int .i64 p] w fun e w' => ∃ s5 p5 k5 c5 q5 l5 d5 sz5 pz5 kz5 cz5 qz5 lz5 dz5 x5 y5, e = .returned (.tuple #[.agg #[.bool s5, .slice p5 k5 c5, .slice q5 l5 d5, .bool sz5, .slice pz5 kz5 cz5, .slice qz5 lz5 dz5, .bool x5, .bool y5], .int .i64 c]) ∧ Hid (GRep w' (.agg #[.bool s5, .slice p5 k5 c5, .slice q5 l5 d5, .bool sz5, .slice pz5 kz5 cz5, .slice qz5 lz5 dz5, .bool x5, .bool y5]) gzero) ∧ Below w.heap.size w w' := by
 have HL := hid ho
 clear ho
 rcases hc with rfl | rfl
 all_goals
  go_enter Tryz.func56, Tryz.ntmps56
  go_wp2_with fail
  have HV := hid (pre3 w [.bool s1, .slice p1 k1 c1, .slice q1 l1 d1, .bool sz1, .slice pz1 kz1 cz1, .slice qz1 lz1 dz1, .bool x1, .bool y1] [.bool s2, .slice p2 k2 c2, .slice q2 l2 d2, .bool sz2, .slice pz2 kz2 cz2, .slice qz2 lz2 dz2, .bool x2, .bool y2] [.bool false, .slice none 0 0, .slice none 0 0, .bool false, .slice none 0 0, .slice none 0 0, .bool false, .bool false] 26 26 26 nd8 nd8 nd8)
  generalize ((w.alloc (.cells #[.bool s1, .slice p1 k1 c1, .slice q1 l1 d1, .bool sz1, .slice pz1 kz1 cz1, .slice qz1 lz1 dz1, .bool x1, .bool y1] 26)).alloc (.cells #[.bool s2, .slice p2 k2 c2, .slice q2 l2 d2, .bool sz2, .slice pz2 kz2 cz2, .slice qz2 lz2 dz2, .bool x2, .bool y2] 26)).alloc (.cells #[.bool false, .slice none 0 0, .slice none 0 0, .bool false, .slice none 0 0, .slice none 0 0, .bool false, .bool false] 26) = W0 at *
  refine (HL.out _ HV.out.2.2.2).mono ?_
  rintro e w1 ⟨rfl, hB1⟩
  have HE := hid (And.intro (HV.out.2.2.1.below hB1) (HV.out.2.2.2.trans (hB1.mono HV.out.2.2.2.size)))
  clear hB1
  go_upto_region 3 with fail
  have hlt := HE.out.1.lt
  generalize hA : World.alloc _ _ = W1
  have HX : Hid (Below w1.heap.size w1 W1) := hid (by rw [← hA]; exact ((Below.refl _ _).alloc (Nat.le_refl _) _).alloc (by simp) _)
  clear hA
  have HE2 := hid (And.intro (HE.out.1.below HX.out) (HE.out.2.trans (HX.out.mono HE.out.2.size)))
  obtain ⟨g0, g1, g2, g3, g4, g5, g6, g7, f0, f1, f2, f3, f4, f5, f6, f7⟩ := HE2.out.1.cells8
  go_wp2_with fail
  exact jSub_ret rfl rfl (HE2.out.1.stores [.bool false, .slice none 0 0, .slice none 0 0, .bool false, .slice none 0 0, .slice none 0 0, .bool false, .bool false] rfl nd8) ⟨_, _, _, _, _, _, _, _, _, _, _, _, _, _, _, _, rfl, hid (GRep.stores (k := 0) (l := [.bool false, .slice none 0 0, .slice none 0 0, .bool false, .slice none 0 0, .slice none 0 0, .bool false, .bool false]) (GRep.zero W1) HE2.out.1 nd8), Below.stores (k := 0) (l := [.bool false, .slice none 0 0, .slice none 0 0, .bool false, .slice none 0 0, .slice none 0 0, .bool false, .bool false]) HE2.out.2 (by omega)⟩
theorem jSub_ok (s1 : Bool) (p1 : Option Addr) (k1 c1 : Nat) (q1 : Option Addr) (l1 d1 : Nat) (sz1 : Bool) (pz1 : Option Addr) (kz1 cz1 : Nat) (qz1 : Option Addr) (lz1 dz1 : Nat) (x1 : Bool) (y1 : Bool) (s2 : Bool) (p2 : Option Addr) (k2 c2 : Nat) (q2 : Option Addr) (l2 d2 : Nat) (sz2 : Bool) (pz2 : Option Addr) (kz2 cz2 : Nat) (qz2 : Option Addr) (lz2 dz2 : Nat) (x2 : Bool) (y2 : Bool) (J K : (Bool × Nat × Nat) × (Bool × Nat × Nat) × Bool × Bool × Bool) (pr : Nat) (w : World) (hJ : JGood J) (hK : JGood K) (hp : pr ≤ 128)
  (ho : ∀ W, Below w.heap.size w W → Calls Tryz.prog 92 #[.agg #[.bool s1, .slice p1 k1 c1, .slice q1 l1 d1, .bool sz1, .slice pz1 kz1 cz1, .slice qz1 lz1 dz1, .bool x1, .bool y1], .agg #[.bool s2, .slice p2 k2 c2, .slice q2 l2 d2, .bool sz2, .slice pz2 kz2 cz2, .slice qz2 lz2 dz2, .bool x2, .bool y2], .int .i64 (pr : Int)] W fun e w' => ∃ s3 p3 k3 c3 q3 l3 d3 sz3 pz3 kz3 cz3 qz3 lz3 dz3 x3 y3 e3 s4 p4 k4 c4 q4 l4 d4 sz4 pz4 kz4 cz4 qz4 lz4 dz4 x4 y4 e4, e = .returned (.tuple #[.agg #[.bool s3, .slice p3 k3 c3, .slice q3 l3 d3, .bool sz3, .slice pz3 kz3 cz3, .slice qz3 lz3 dz3, .bool x3, .bool y3, .bool e3], .agg #[.bool s4, .slice p4 k4 c4, .slice q4 l4 d4, .bool sz4, .slice pz4 kz4 cz4, .slice qz4 lz4 dz4, .bool x4, .bool y4, .bool e4], .int .i64 0]) ∧ Hid (JRep w' (.agg #[.bool s3, .slice p3 k3 c3, .slice q3 l3 d3, .bool sz3, .slice pz3 kz3 cz3, .slice qz3 lz3 dz3, .bool x3, .bool y3, .bool e3]) J) ∧ Hid (JRep w' (.agg #[.bool s4, .slice p4 k4 c4, .slice q4 l4 d4, .bool sz4, .slice pz4 kz4 cz4, .slice qz4 lz4 dz4, .bool x4, .bool y4, .bool e4]) K) ∧ Below W.heap.size W w') :
  Calls Tryz.prog 56 #[.agg #[.bool s1, .slice p1 k1 c1, .slice q1 l1 d1, .bool sz1, .slice pz1 kz1 cz1, .slice qz1 lz1 dz1, .bool x1, .bool y1], .agg #[.bool s2, .slice p2 k2 c2, .slice q2 l2 d2, .bool sz2, .slice pz2 kz2 cz2, .slice qz2 lz2 dz2, .bool x2, .bool y2], .int .i64 (pr : Int)] w fun e w' => ∃ s5 p5 k5 c5 q5 l5 d5 sz5 pz5 kz5 cz5 qz5 lz5 dz5 x5 y5, e = .returned (.tuple #[.agg #[.bool s5, .slice p5 k5 c5, .slice q5 l5 d5, .bool sz5, .slice pz5 kz5 cz5, .slice qz5 lz5 dz5, .bool x5, .bool y5], .int .i64 (if jbig (jround (jplus J (jminus K)) pr) then 1 else 0)]) ∧ Hid (GRep w' (.agg #[.bool s5, .slice p5 k5 c5, .slice q5 l5 d5, .bool sz5, .slice pz5 kz5 cz5, .slice qz5 lz5 dz5, .bool x5, .bool y5]) (if jbig (jround (jplus J (jminus K)) pr) then gzero else japi (jround (jplus J (jminus K)) pr))) ∧ Below w.heap.size w w' := by
 have HL := hid ho
 have HN := hid (fun (W : World) (s4 : Bool) (p4 : Option Addr) (k4 c4 : Nat) (q4 : Option Addr) (l4 d4 : Nat) (sz4 : Bool) (pz4 : Option Addr) (kz4 cz4 : Nat) (qz4 : Option Addr) (lz4 dz4 : Nat) (x4 : Bool) (y4 : Bool) (e4 : Bool) (h : JRep W (.agg #[.bool s4, .slice p4 k4 c4, .slice q4 l4 d4, .bool sz4, .slice pz4 kz4 cz4, .slice qz4 lz4 dz4, .bool x4, .bool y4, .bool e4]) K) => jMinus_any s4 p4 k4 c4 q4 l4 d4 sz4 pz4 kz4 cz4 qz4 lz4 dz4 x4 y4 e4 K W h)
 have HP := hid (fun (W : World) (s3 : Bool) (p3 : Option Addr) (k3 c3 : Nat) (q3 : Option Addr) (l3 d3 : Nat) (sz3 : Bool) (pz3 : Option Addr) (kz3 cz3 : Nat) (qz3 : Option Addr) (lz3 dz3 : Nat) (x3 : Bool) (y3 : Bool) (e3 : Bool) (s4 : Bool) (p4 : Option Addr) (k4 c4 : Nat) (q4 : Option Addr) (l4 d4 : Nat) (sz4 : Bool) (pz4 : Option Addr) (kz4 cz4 : Nat) (qz4 : Option Addr) (lz4 dz4 : Nat) (x4 : Bool) (y4 : Bool) (e4 : Bool) (h : JRep W (.agg #[.bool s3, .slice p3 k3 c3, .slice q3 l3 d3, .bool sz3, .slice pz3 kz3 cz3, .slice qz3 lz3 dz3, .bool x3, .bool y3, .bool e3]) J) (h' : JRep W (.agg #[.bool s4, .slice p4 k4 c4, .slice q4 l4 d4, .bool sz4, .slice pz4 kz4 cz4, .slice qz4 lz4 dz4, .bool x4, .bool y4, .bool e4]) (jminus K)) => jPlus_any s3 p3 k3 c3 q3 l3 d3 sz3 pz3 kz3 cz3 qz3 lz3 dz3 x3 y3 e3 s4 p4 k4 c4 q4 l4 d4 sz4 pz4 kz4 cz4 qz4 lz4 dz4 x4 y4 e4 _ _ W h h' hJ hK.neg)
 have HM := hid (fun (W : World) (s3 : Bool) (p3 : Option Addr) (k3 c3 : Nat) (q3 : Option Addr) (l3 d3 : Nat) (sz3 : Bool) (pz3 : Option Addr) (kz3 cz3 : Nat) (qz3 : Option Addr) (lz3 dz3 : Nat) (x3 : Bool) (y3 : Bool) (e3 : Bool) (h : JRep W (.agg #[.bool s3, .slice p3 k3 c3, .slice q3 l3 d3, .bool sz3, .slice pz3 kz3 cz3, .slice qz3 lz3 dz3, .bool x3, .bool y3, .bool e3]) (jplus J (jminus K))) => jRounded_w s3 p3 k3 c3 q3 l3 d3 sz3 pz3 kz3 cz3 qz3 lz3 dz3 x3 y3 e3 _ pr W h (JW.plus (by omega) hJ hK.neg) (by omega))
 have HA := hid (fun (W : World) (s3 : Bool) (p3 : Option Addr) (k3 c3 : Nat) (q3 : Option Addr) (l3 d3 : Nat) (sz3 : Bool) (pz3 : Option Addr) (kz3 cz3 : Nat) (qz3 : Option Addr) (lz3 dz3 : Nat) (x3 : Bool) (y3 : Bool) (e3 : Bool) (h : JRep W (.agg #[.bool s3, .slice p3 k3 c3, .slice q3 l3 d3, .bool sz3, .slice pz3 kz3 cz3, .slice qz3 lz3 dz3, .bool x3, .bool y3, .bool e3]) (jround (jplus J (jminus K)) pr)) => jDone_any s3 p3 k3 c3 q3 l3 d3 sz3 pz3 kz3 cz3 qz3 lz3 dz3 x3 y3 e3 _ W h (JW.bd (JW.plus (by omega) hJ hK.neg) hp))
 clear ho hJ hK hp
 obtain ⟨r, hr⟩ : ∃ r, r = jplus J (jminus K) := ⟨_, rfl⟩
 rw [← hr] at HP HM HA ⊢
 clear hr
 obtain ⟨t, hr⟩ : ∃ t, t = jround r pr := ⟨_, rfl⟩
 rw [← hr] at HM HA ⊢
 clear hr
 obtain ⟨c, hr⟩ : ∃ c : Int, c = if jbig t then 1 else 0 := ⟨_, rfl⟩
 obtain ⟨D, hD⟩ : ∃ D, D = if jbig t then gzero else japi t := ⟨_, rfl⟩
 rw [← hr, ← hD] at HA ⊢
 clear hr hD
 obtain ⟨p, hp⟩ : ∃ pi : Int, pi = (pr : Int) := ⟨_, rfl⟩
 rw [← hp] at HL HM ⊢
 clear hp
 go_enter Tryz.func56, Tryz.ntmps56
 go_wp2_with fail
 have HV := hid (pre3 w [.bool s1, .slice p1 k1 c1, .slice q1 l1 d1, .bool sz1, .slice pz1 kz1 cz1, .slice qz1 lz1 dz1, .bool x1, .bool y1] [.bool s2, .slice p2 k2 c2, .slice q2 l2 d2, .bool sz2, .slice pz2 kz2 cz2, .slice qz2 lz2 dz2, .bool x2, .bool y2] [.bool false, .slice none 0 0, .slice none 0 0, .bool false, .slice none 0 0, .slice none 0 0, .bool false, .bool false] 26 26 26 nd8 nd8 nd8)
 generalize ((w.alloc (.cells #[.bool s1, .slice p1 k1 c1, .slice q1 l1 d1, .bool sz1, .slice pz1 kz1 cz1, .slice qz1 lz1 dz1, .bool x1, .bool y1] 26)).alloc (.cells #[.bool s2, .slice p2 k2 c2, .slice q2 l2 d2, .bool sz2, .slice pz2 kz2 cz2, .slice qz2 lz2 dz2, .bool x2, .bool y2] 26)).alloc (.cells #[.bool false, .slice none 0 0, .slice none 0 0, .bool false, .slice none 0 0, .slice none 0 0, .bool false, .bool false] 26) = W0 at *
 refine (HL.out _ HV.out.2.2.2).mono ?_
 rintro e w1 ⟨s3, p3, k3, c3, q3, l3, d3, sz3, pz3, kz3, cz3, qz3, lz3, dz3, x3, y3, e3, s4, p4, k4, c4, q4, l4, d4, sz4, pz4, kz4, cz4, qz4, lz4, dz4, x4, y4, e4, rfl, hJ, hK, hB1⟩
 have HE := hid (And.intro (HV.out.2.2.1.below hB1) (HV.out.2.2.2.trans (hB1.mono HV.out.2.2.2.size)))
 clear hB1
 go_upto_region 4 with fail
 have hlt := HE.out.1.lt
 generalize hA : World.alloc _ _ = W1
 have HX := hid (pre2_of hA nd_J nd_J)
 clear hA
 have HJ := hid (hJ.out.below HX.out.2.2)
 have HK := hid (hK.out.below HX.out.2.2)
 clear hJ hK
 have HE2 := hid (And.intro (HE.out.1.below HX.out.2.2) (HE.out.2.trans (HX.out.2.2.mono HE.out.2.size)))
 obtain ⟨m0, m1, m2, m3, m4, m5, m6, m7, m8, _⟩ := HX.out.1.cells9
 obtain ⟨n0, n1, n2, n3, n4, n5, n6, n7, n8, _⟩ := HX.out.2.1.cells9
 have HQ := hid (QQ.i2 (w := w) (cs := [.bool s3, .slice p3 k3 c3, .slice q3 l3 d3, .bool sz3, .slice pz3 kz3 cz3, .slice qz3 lz3 dz3, .bool x3, .bool y3, .bool e3]) (cs' := [.bool s4, .slice p4 k4 c4, .slice q4 l4 d4, .bool sz4, .slice pz4 kz4 cz4, .slice qz4 lz4 dz4, .bool x4, .bool y4, .bool e4]) HX.out.1 HX.out.2.1 HE2.out.2)
 have HS := hid (fun (w' : World) (hb : QQ w [(w1.heap.size, [.bool s3, .slice p3 k3 c3, .slice q3 l3 d3, .bool sz3, .slice pz3 kz3 cz3, .slice qz3 lz3 dz3, .bool x3, .bool y3, .bool e3]), (w1.heap.size + 1, [.bool s4, .slice p4 k4 c4, .slice q4 l4 d4, .bool sz4, .slice pz4 kz4 cz4, .slice qz4 lz4 dz4, .bool x4, .bool y4, .bool e4])] w') => hb.s_9_9)
 have HNN : Hid (Apart [(w1.heap.size, [.bool s3, .slice p3 k3 c3, .slice q3 l3 d3, .bool sz3, .slice pz3 kz3 cz3, .slice qz3 lz3 dz3, .bool x3, .bool y3, .bool e3]), (w1.heap.size + 1, [.bool s4, .slice p4 k4 c4, .slice q4 l4 d4, .bool sz4, .slice pz4 kz4 cz4, .slice qz4 lz4 dz4, .bool x4, .bool y4, .bool e4])] (w.heap.size + 1 + 1)) := hid (ne2 (by omega) (by omega))
 have HI : Hid (w.heap.size ≤ w.heap.size + 1 + 1) := hid (by omega)
 clear m0 m1 m2 m3 m4 m5 m6 m7 m8 n0 n1 n2 n3 n4 n5 n6 n7 n8
 go_region_held3 (fun w' => w'.cell? ⟨w1.heap.size, 0, none⟩ = some (.bool s3) ∧ w'.cell? ⟨w1.heap.size, 1, none⟩ = some (.slice p3 k3 c3) ∧ w'.cell? ⟨w1.heap.size, 2, none⟩ = some (.slice q3 l3 d3) ∧ w'.cell? ⟨w1.heap.size, 3, none⟩ = some (.bool sz3) ∧ w'.cell? ⟨w1.heap.size, 4, none⟩ = some (.slice pz3 kz3 cz3) ∧ w'.cell? ⟨w1.heap.size, 5, none⟩ = some (.slice qz3 lz3 dz3) ∧ w'.cell? ⟨w1.heap.size, 6, none⟩ = some (.bool x3) ∧ w'.cell? ⟨w1.heap.size, 7, none⟩ = some (.bool y3) ∧ w'.cell? ⟨w1.heap.size, 8, none⟩ = some (.bool e3) ∧ w'.cell? ⟨w1.heap.size + 1, 0, none⟩ = some (.bool s4) ∧ w'.cell? ⟨w1.heap.size + 1, 1, none⟩ = some (.slice p4 k4 c4) ∧ w'.cell? ⟨w1.heap.size + 1, 2, none⟩ = some (.slice q4 l4 d4) ∧ w'.cell? ⟨w1.heap.size + 1, 3, none⟩ = some (.bool sz4) ∧ w'.cell? ⟨w1.heap.size + 1, 4, none⟩ = some (.slice pz4 kz4 cz4) ∧ w'.cell? ⟨w1.heap.size + 1, 5, none⟩ = some (.slice qz4 lz4 dz4) ∧ w'.cell? ⟨w1.heap.size + 1, 6, none⟩ = some (.bool x4) ∧ w'.cell? ⟨w1.heap.size + 1, 7, none⟩ = some (.bool y4) ∧ w'.cell? ⟨w1.heap.size + 1, 8, none⟩ = some (.bool e4) ∧ Hid (QQ w [(w1.heap.size, [.bool s3, .slice p3 k3 c3, .slice q3 l3 d3, .bool sz3, .slice pz3 kz3 cz3, .slice qz3 lz3 dz3, .bool x3, .bool y3, .bool e3]), (w1.heap.size + 1, [.bool s4, .slice p4 k4 c4, .slice q4 l4 d4, .bool sz4, .slice pz4 kz4 cz4, .slice qz4 lz4 dz4, .bool x4, .bool y4, .bool e4])] w'))
  (first | (refine HS.out _ ?_; first | (with_reducible exact HQ.out.drew) | (with_reducible assumption) | (with_reducible refine QQ.st8 ?_ HNN.out HI.out; assumption)))
  (first
   | (go_at_call 79; refine (HN.out _ s4 p4 k4 c4 q4 l4 d4 sz4 pz4 kz4 cz4 qz4 lz4 dz4 x4 y4 e4 (HK.out.below (Below.refl _ _).drew)).mono ?_; rintro e wa ⟨s6, p6, k6, c6, q6, l6, d6, sz6, pz6, kz6, cz6, qz6, lz6, dz6, x6, y6, e6, rfl, hE1, hB1⟩; have hQ1 := HQ.out.drew.call hB1; have hV1 := HE2.out.1.drew.below hB1; have hJ1 := (HJ.out.below (Below.refl _ _).drew).below hB1)
   | (go_at_call 119; refine (HP.out _ s3 p3 k3 c3 q3 l3 d3 sz3 pz3 kz3 cz3 qz3 lz3 dz3 x3 y3 e3 s6 p6 k6 c6 q6 l6 d6 sz6 pz6 kz6 cz6 qz6 lz6 dz6 x6 y6 e6 hJ1 hE1.out).mono ?_; rintro e wb ⟨s7, p7, k7, c7, q7, l7, d7, sz7, pz7, kz7, cz7, qz7, lz7, dz7, x7, y7, e7, rfl, hM, hB2⟩; have hQ2 := hQ1.call hB2; have hV2 := hV1.below hB2)
   | (go_at_call 116; refine (HM.out _ s7 p7 k7 c7 q7 l7 d7 sz7 pz7 kz7 cz7 qz7 lz7 dz7 x7 y7 e7 hM.out).mono ?_; rintro e wc ⟨s8, p8, k8, c8, q8, l8, d8, sz8, pz8, kz8, cz8, qz8, lz8, dz8, x8, y8, e8, rfl, hN, hB3⟩; have hQ3 := hQ2.call hB3; have hV3 := hV2.below hB3)
   | (go_at_call 115; refine (HA.out _ s8 p8 k8 c8 q8 l8 d8 sz8 pz8 kz8 cz8 qz8 lz8 dz8 x8 y8 e8 hN.out).mono ?_; rintro e wd ⟨s5, p5, k5, c5, q5, l5, d5, sz5, pz5, kz5, cz5, qz5, lz5, dz5, x5, y5, rfl, hG, hB4⟩; have hQ4 := hQ3.call hB4; have hV4 := hV3.below hB4; obtain ⟨g0, g1, g2, g3, g4, g5, g6, g7, f0, f1, f2, f3, f4, f5, f6, f7⟩ := hV4.cells8))
 all_goals
  have HE5 := hid (And.intro hV4 (And.intro hG.out hQ4.bel))
  clear hQ1 hQ2 hQ3 hQ4 hV1 hV2 hV3 hV4 hB1 hB2 hB3 hB4 hE1 hM hN hG hJ1
  go_wp2_with fail
  exact jSub_ret rfl rfl (HE5.out.1.stores [.bool s5, .slice p5 k5 c5, .slice q5 l5 d5, .bool sz5, .slice pz5 kz5 cz5, .slice qz5 lz5 dz5, .bool x5, .bool y5] rfl nd8) ⟨s5, p5, k5, c5, q5, l5, d5, sz5, pz5, kz5, cz5, qz5, lz5, dz5, x5, y5, rfl, hid (GRep.stores (k := 0) (l := [.bool s5, .slice p5 k5 c5, .slice q5 l5 d5, .bool sz5, .slice pz5 kz5 cz5, .slice qz5 lz5 dz5, .bool x5, .bool y5]) HE5.out.2.1 HE5.out.1 nd8), Below.stores (k := 0) (l := [.bool s5, .slice p5 k5 c5, .slice q5 l5 d5, .bool sz5, .slice pz5 kz5 cz5, .slice qz5 lz5 dz5, .bool x5, .bool y5]) HE5.out.2.2 (by omega)⟩
end Go.Proofs.YtpdpabpdejmdbaaGreatDoor
namespace Go.Proofs.YtpdpabpdejmdbaaGreatDoor
open Go.RowKit Dg
structure ROp (f : (Int × Bool × Nat × Nat) × (Int × Bool × Nat × Nat) × Bool → (Int × Bool × Nat × Nat) × (Int × Bool × Nat × Nat) × Bool → (Int × Bool × Nat × Nat) × (Int × Bool × Nat × Nat) × Bool) (g : (Bool × Nat × Nat) × (Bool × Nat × Nat) × Bool × Bool × Bool → (Bool × Nat × Nat) × (Bool × Nat × Nat) × Bool × Bool × Bool → (Bool × Nat × Nat) × (Bool × Nat × Nat) × Bool × Bool × Bool) : Prop where
 sim : ∀ {S T : (Int × Bool × Nat × Nat) × (Int × Bool × Nat × Nat) × Bool} {J K : (Bool × Nat × Nat) × (Bool × Nat × Nat) × Bool × Bool × Bool}, Sim S J → Sim T K → Sim (f S T) (g J K)
 e1 : ∀ K : (Bool × Nat × Nat) × (Bool × Nat × Nat) × Bool × Bool × Bool, g jnone K = jnone
 e2 : ∀ J : (Bool × Nat × Nat) × (Bool × Nat × Nat) × Bool × Bool × Bool, g J jnone = jnone
 wide : ∀ {J K : (Bool × Nat × Nat) × (Bool × Nat × Nat) × Bool × Bool × Bool}, JGood J → JGood K → JW 400 (g J K)
theorem rop_plus : ROp splus jplus := ⟨Sim.plus, fun _ => rfl, fun J => by unfold jplus; rw [show (jnone : (Bool × Nat × Nat) × (Bool × Nat × Nat) × Bool × Bool × Bool).2.2.2.2 = true from rfl, Bool.or_true]; rfl, fun h h' => JW.plus (by omega) h h'⟩
theorem rop_minus : ROp sminus (fun J K => jplus J (jminus K)) := ⟨fun h h' => h.plus h'.neg, fun _ => rfl, fun J => by show jplus J (jminus jnone) = jnone; unfold jplus; rw [show (jminus jnone : (Bool × Nat × Nat) × (Bool × Nat × Nat) × Bool × Bool × Bool).2.2.2.2 = true from rfl, Bool.or_true]; rfl, fun h h' => JW.plus (by omega) h h'.neg⟩
theorem rop_large {p : Int} {f : (Int × Bool × Nat × Nat) × (Int × Bool × Nat × Nat) × Bool → (Int × Bool × Nat × Nat) × (Int × Bool × Nat × Nat) × Bool → (Int × Bool × Nat × Nat) × (Int × Bool × Nat × Nat) × Bool} {a a' : (Bool × Nat × Nat) × (Bool × Nat × Nat) × Bool × Bool} (h : (ilarge a || ilarge a') = true) : rcode p f a a' = 1 ∧ rval p f a a' = gzero := by
 unfold rcode rval b2code b2val
 rw [h]
 exact ⟨rfl, rfl⟩
theorem rop_arg {p : Int} {f : (Int × Bool × Nat × Nat) × (Int × Bool × Nat × Nat) × Bool → (Int × Bool × Nat × Nat) × (Int × Bool × Nat × Nat) × Bool → (Int × Bool × Nat × Nat) × (Int × Bool × Nat × Nat) × Bool} {a a' : (Bool × Nat × Nat) × (Bool × Nat × Nat) × Bool × Bool} (h : (ilarge a || ilarge a') = false) (hv : prec p = false) : rcode p f a a' = 2 ∧ rval p f a a' = gzero := by
 unfold rcode rval b2code b2val
 rw [h, hv]
 exact ⟨rfl, rfl⟩
theorem rop_code {f : (Int × Bool × Nat × Nat) × (Int × Bool × Nat × Nat) × Bool → (Int × Bool × Nat × Nat) × (Int × Bool × Nat × Nat) × Bool → (Int × Bool × Nat × Nat) × (Int × Bool × Nat × Nat) × Bool} {g : (Bool × Nat × Nat) × (Bool × Nat × Nat) × Bool × Bool × Bool → (Bool × Nat × Nat) × (Bool × Nat × Nat) × Bool × Bool × Bool → (Bool × Nat × Nat) × (Bool × Nat × Nat) × Bool × Bool × Bool} (hR : ROp f g) (p : Int) {a b a' b' : Bool × Nat × Nat} {x y x' y' : Bool} (h : (ilarge (a, b, x, y) || ilarge (a', b', x', y')) = false) (hv : prec p = true) :
  rcode p f (a, b, x, y) (a', b', x', y') = (if jbig (jround (g (jof (a, b, x, y)) (jof (a', b', x', y'))) p.toNat) then 1 else 0) ∧
  rval p f (a, b, x, y) (a', b', x', y') = (if jbig (jround (g (jof (a, b, x, y)) (jof (a', b', x', y'))) p.toNat) then gzero else japi (jround (g (jof (a, b, x, y)) (jof (a', b', x', y'))) p.toNat)) := by
 unfold rcode rval b2code b2val
 have hl := h
 rw [Bool.or_eq_false_iff] at hl
 have hl1 : (large a.2.1 a.2.2 || large b.2.1 b.2.2) = false := hl.1
 have hl2 : (large a'.2.1 a'.2.2 || large b'.2.1 b'.2.2) = false := hl.2
 rw [Bool.or_eq_false_iff] at hl1 hl2
 rw [h, hv]
 cases he : (srd (a, b, x, y)).2.2
 ·cases he' : (srd (a', b', x', y')).2.2
  ·have hs := (hR.sim (Sim.of he) (Sim.of he')).rnd p.toNat
   rw [hs.1, hs.2]
   exact ⟨rfl, rfl⟩
  ·rw [jof_out he', hR.e2, jbig_none]
   refine ⟨rfl, ?_⟩
   show giv (srd (a', b', x', y')) = _
   rw [giv_srd hl2.1 hl2.2, jof_out he']
   rfl
 ·rw [jof_out he, hR.e1, jbig_none]
  refine ⟨rfl, ?_⟩
  show giv (srd (a, b, x, y)) = _
  rw [giv_srd hl1.1 hl1.2, jof_out he]
  rfl
theorem rop_ok {f : (Int × Bool × Nat × Nat) × (Int × Bool × Nat × Nat) × Bool → (Int × Bool × Nat × Nat) × (Int × Bool × Nat × Nat) × Bool → (Int × Bool × Nat × Nat) × (Int × Bool × Nat × Nat) × Bool} {g : (Bool × Nat × Nat) × (Bool × Nat × Nat) × Bool × Bool × Bool → (Bool × Nat × Nat) × (Bool × Nat × Nat) × Bool × Bool × Bool → (Bool × Nat × Nat) × (Bool × Nat × Nat) × Bool × Bool × Bool} (hR : ROp f g) (p : Int) {a b a' b' : Bool × Nat × Nat} {x y x' y' : Bool} (h : rcode p f (a, b, x, y) (a', b', x', y') = 0) : ∃ r, JGood r ∧ rval p f (a, b, x, y) (a', b', x', y') = japi r := by
 cases hL : (ilarge (a, b, x, y) || ilarge (a', b', x', y'))
 ·cases hv : prec p
  ·rw [(rop_arg hL hv).1] at h; exact absurd h (by decide)
  ·have hc := rop_code hR p hL hv
   have hl := hL
   rw [Bool.or_eq_false_iff] at hl
   have hl1 : (large a.2.1 a.2.2 || large b.2.1 b.2.2) = false := hl.1
   have hl2 : (large a'.2.1 a'.2.2 || large b'.2.1 b'.2.2) = false := hl.2
   rw [Bool.or_eq_false_iff] at hl1 hl2
   rw [hc.1] at h
   rw [hc.2]
   have hw := hR.wide (JGood.of (x := x) (y := y) hl1.1 hl1.2) (JGood.of (x := x') (y := y') hl2.1 hl2.2)
   generalize g (jof (a, b, x, y)) (jof (a', b', x', y')) = r at *
   cases hb : jbig (jround r p.toNat)
   ·refine ⟨jround r p.toNat, ?_, rfl⟩
    rcases hw with rfl | ⟨hf, _⟩
    ·exact .inl rfl
    ·exact hf.round _ hb
   ·rw [hb] at h; exact absurd h (by decide)
 ·rw [(rop_large hL).1] at h; exact absurd h (by decide)
theorem rop_err (p : Int) (f : (Int × Bool × Nat × Nat) × (Int × Bool × Nat × Nat) × Bool → (Int × Bool × Nat × Nat) × (Int × Bool × Nat × Nat) × Bool → (Int × Bool × Nat × Nat) × (Int × Bool × Nat × Nat) × Bool) (a a' : (Bool × Nat × Nat) × (Bool × Nat × Nat) × Bool × Bool) (h : rcode p f a a' ≠ 0) : rval p f a a' = gzero := by
 unfold rcode b2code at h
 unfold rval b2val
 split
 ·rfl
 case isFalse h1 =>
  rw [if_neg h1] at h
  split
  case isTrue h2 =>
   rw [if_pos h2] at h
   split
   case isTrue h3 => rw [if_pos h3] at h; exact absurd rfl h
   case isFalse h3 =>
    rw [if_neg h3] at h
    split
    case isTrue h4 => rw [if_pos h4] at h; exact absurd rfl h
    case isFalse h4 =>
     rw [if_neg h4] at h
     split
     ·rfl
     case isFalse h5 => rw [if_neg h5] at h; exact absurd rfl h
  ·rfl
theorem jAdd_any (s1 : Bool) (p1 : Option Addr) (k1 c1 : Nat) (q1 : Option Addr) (l1 d1 : Nat) (sz1 : Bool) (pz1 : Option Addr) (kz1 cz1 : Nat) (qz1 : Option Addr) (lz1 dz1 : Nat) (x1 : Bool) (y1 : Bool) (s2 : Bool) (p2 : Option Addr) (k2 c2 : Nat) (q2 : Option Addr) (l2 d2 : Nat) (sz2 : Bool) (pz2 : Option Addr) (kz2 cz2 : Nat) (qz2 : Option Addr) (lz2 dz2 : Nat) (x2 : Bool) (y2 : Bool) (p : Int) (a b a' b' : Bool × Nat × Nat) (w : World) (ha : NRep w (.agg #[.bool s1, .slice p1 k1 c1, .slice q1 l1 d1]) a) (hb : NRep w (.agg #[.bool sz1, .slice pz1 kz1 cz1, .slice qz1 lz1 dz1]) b) (ha' : NRep w (.agg #[.bool s2, .slice p2 k2 c2, .slice q2 l2 d2]) a') (hb' : NRep w (.agg #[.bool sz2, .slice pz2 kz2 cz2, .slice qz2 lz2 dz2]) b') :
  Calls Tryz.prog 54 #[.agg #[.bool s1, .slice p1 k1 c1, .slice q1 l1 d1, .bool sz1, .slice pz1 kz1 cz1, .slice qz1 lz1 dz1, .bool x1, .bool y1], .agg #[.bool s2, .slice p2 k2 c2, .slice q2 l2 d2, .bool sz2, .slice pz2 kz2 cz2, .slice qz2 lz2 dz2, .bool x2, .bool y2], .int .i64 p] w fun e w' => ∃ s5 p5 k5 c5 q5 l5 d5 sz5 pz5 kz5 cz5 qz5 lz5 dz5 x5 y5, e = .returned (.tuple #[.agg #[.bool s5, .slice p5 k5 c5, .slice q5 l5 d5, .bool sz5, .slice pz5 kz5 cz5, .slice qz5 lz5 dz5, .bool x5, .bool y5], .int .i64 (rcode p splus (a, b, x1, y1) (a', b', x2, y2))]) ∧ Hid (GRep w' (.agg #[.bool s5, .slice p5 k5 c5, .slice q5 l5 d5, .bool sz5, .slice pz5 kz5 cz5, .slice qz5 lz5 dz5, .bool x5, .bool y5]) (rval p splus (a, b, x1, y1) (a', b', x2, y2))) ∧ Below w.heap.size w w' := by
 cases hL : (ilarge (a, b, x1, y1) || ilarge (a', b', x2, y2))
 ·cases hv : prec p
  ·have hc := rop_arg (f := splus) hL hv
   rw [hc.1, hc.2]
   rw [Bool.or_eq_false_iff] at hL
   exact jAdd_err s1 p1 k1 c1 q1 l1 d1 sz1 pz1 kz1 cz1 qz1 lz1 dz1 x1 y1 s2 p2 k2 c2 q2 l2 d2 sz2 pz2 kz2 cz2 qz2 lz2 dz2 x2 y2 p 2 w (.inr rfl) fun W hW => jTwo_arg s1 p1 k1 c1 q1 l1 d1 sz1 pz1 kz1 cz1 qz1 lz1 dz1 x1 y1 s2 p2 k2 c2 q2 l2 d2 sz2 pz2 kz2 cz2 qz2 lz2 dz2 x2 y2 a b a' b' p W (ha.below hW) (hb.below hW) (ha'.below hW) (hb'.below hW) hL.1 hL.2 hv
  ·have hc := rop_code rop_plus p hL hv
   have hl := hL
   rw [Bool.or_eq_false_iff] at hl
   have hl1 : (large a.2.1 a.2.2 || large b.2.1 b.2.2) = false := hl.1
   have hl2 : (large a'.2.1 a'.2.2 || large b'.2.1 b'.2.2) = false := hl.2
   rw [Bool.or_eq_false_iff] at hl1 hl2
   unfold prec at hv
   rw [Bool.and_eq_true, decide_eq_true_eq, decide_eq_true_eq] at hv
   obtain ⟨pr, rfl⟩ := Int.eq_ofNat_of_zero_le hv.1
   rw [hc.1, hc.2]
   exact jAdd_ok s1 p1 k1 c1 q1 l1 d1 sz1 pz1 kz1 cz1 qz1 lz1 dz1 x1 y1 s2 p2 k2 c2 q2 l2 d2 sz2 pz2 kz2 cz2 qz2 lz2 dz2 x2 y2 (jof (a, b, x1, y1)) (jof (a', b', x2, y2)) pr w (JGood.of hl1.1 hl1.2) (JGood.of hl2.1 hl2.2) (by omega) fun W hW =>
    jTwo_ok s1 p1 k1 c1 q1 l1 d1 sz1 pz1 kz1 cz1 qz1 lz1 dz1 x1 y1 s2 p2 k2 c2 q2 l2 d2 sz2 pz2 kz2 cz2 qz2 lz2 dz2 x2 y2 a b a' b' (pr : Int) W (ha.below hW) (hb.below hW) (ha'.below hW) (hb'.below hW) hl1.1 hl1.2 hl2.1 hl2.2 (by omega) (by omega)
 ·have hc := rop_large (p := p) (f := splus) hL
  rw [hc.1, hc.2]
  exact jAdd_err s1 p1 k1 c1 q1 l1 d1 sz1 pz1 kz1 cz1 qz1 lz1 dz1 x1 y1 s2 p2 k2 c2 q2 l2 d2 sz2 pz2 kz2 cz2 qz2 lz2 dz2 x2 y2 p 1 w (.inl rfl) fun W hW => by
   cases hl : ilarge (a, b, x1, y1)
   ·rw [hl, Bool.false_or] at hL
    exact jTwo_l2 s1 p1 k1 c1 q1 l1 d1 sz1 pz1 kz1 cz1 qz1 lz1 dz1 x1 y1 s2 p2 k2 c2 q2 l2 d2 sz2 pz2 kz2 cz2 qz2 lz2 dz2 x2 y2 a b a' b' p W (ha.below hW) (hb.below hW) (ha'.below hW) (hb'.below hW) hl hL
   ·exact jTwo_l1 s1 p1 k1 c1 q1 l1 d1 sz1 pz1 kz1 cz1 qz1 lz1 dz1 x1 y1 s2 p2 k2 c2 q2 l2 d2 sz2 pz2 kz2 cz2 qz2 lz2 dz2 x2 y2 a b p W (ha.below hW) (hb.below hW) hl
theorem jSub_any (s1 : Bool) (p1 : Option Addr) (k1 c1 : Nat) (q1 : Option Addr) (l1 d1 : Nat) (sz1 : Bool) (pz1 : Option Addr) (kz1 cz1 : Nat) (qz1 : Option Addr) (lz1 dz1 : Nat) (x1 : Bool) (y1 : Bool) (s2 : Bool) (p2 : Option Addr) (k2 c2 : Nat) (q2 : Option Addr) (l2 d2 : Nat) (sz2 : Bool) (pz2 : Option Addr) (kz2 cz2 : Nat) (qz2 : Option Addr) (lz2 dz2 : Nat) (x2 : Bool) (y2 : Bool) (p : Int) (a b a' b' : Bool × Nat × Nat) (w : World) (ha : NRep w (.agg #[.bool s1, .slice p1 k1 c1, .slice q1 l1 d1]) a) (hb : NRep w (.agg #[.bool sz1, .slice pz1 kz1 cz1, .slice qz1 lz1 dz1]) b) (ha' : NRep w (.agg #[.bool s2, .slice p2 k2 c2, .slice q2 l2 d2]) a') (hb' : NRep w (.agg #[.bool sz2, .slice pz2 kz2 cz2, .slice qz2 lz2 dz2]) b') :
  Calls Tryz.prog 56 #[.agg #[.bool s1, .slice p1 k1 c1, .slice q1 l1 d1, .bool sz1, .slice pz1 kz1 cz1, .slice qz1 lz1 dz1, .bool x1, .bool y1], .agg #[.bool s2, .slice p2 k2 c2, .slice q2 l2 d2, .bool sz2, .slice pz2 kz2 cz2, .slice qz2 lz2 dz2, .bool x2, .bool y2], .int .i64 p] w fun e w' => ∃ s5 p5 k5 c5 q5 l5 d5 sz5 pz5 kz5 cz5 qz5 lz5 dz5 x5 y5, e = .returned (.tuple #[.agg #[.bool s5, .slice p5 k5 c5, .slice q5 l5 d5, .bool sz5, .slice pz5 kz5 cz5, .slice qz5 lz5 dz5, .bool x5, .bool y5], .int .i64 (rcode p sminus (a, b, x1, y1) (a', b', x2, y2))]) ∧ Hid (GRep w' (.agg #[.bool s5, .slice p5 k5 c5, .slice q5 l5 d5, .bool sz5, .slice pz5 kz5 cz5, .slice qz5 lz5 dz5, .bool x5, .bool y5]) (rval p sminus (a, b, x1, y1) (a', b', x2, y2))) ∧ Below w.heap.size w w' := by
 cases hL : (ilarge (a, b, x1, y1) || ilarge (a', b', x2, y2))
 ·cases hv : prec p
  ·have hc := rop_arg (f := sminus) hL hv
   rw [hc.1, hc.2]
   rw [Bool.or_eq_false_iff] at hL
   exact jSub_err s1 p1 k1 c1 q1 l1 d1 sz1 pz1 kz1 cz1 qz1 lz1 dz1 x1 y1 s2 p2 k2 c2 q2 l2 d2 sz2 pz2 kz2 cz2 qz2 lz2 dz2 x2 y2 p 2 w (.inr rfl) fun W hW => jTwo_arg s1 p1 k1 c1 q1 l1 d1 sz1 pz1 kz1 cz1 qz1 lz1 dz1 x1 y1 s2 p2 k2 c2 q2 l2 d2 sz2 pz2 kz2 cz2 qz2 lz2 dz2 x2 y2 a b a' b' p W (ha.below hW) (hb.below hW) (ha'.below hW) (hb'.below hW) hL.1 hL.2 hv
  ·have hc := rop_code rop_minus p hL hv
   have hl := hL
   rw [Bool.or_eq_false_iff] at hl
   have hl1 : (large a.2.1 a.2.2 || large b.2.1 b.2.2) = false := hl.1
   have hl2 : (large a'.2.1 a'.2.2 || large b'.2.1 b'.2.2) = false := hl.2
   rw [Bool.or_eq_false_iff] at hl1 hl2
   unfold prec at hv
   rw [Bool.and_eq_true, decide_eq_true_eq, decide_eq_true_eq] at hv
   obtain ⟨pr, rfl⟩ := Int.eq_ofNat_of_zero_le hv.1
   rw [hc.1, hc.2]
   exact jSub_ok s1 p1 k1 c1 q1 l1 d1 sz1 pz1 kz1 cz1 qz1 lz1 dz1 x1 y1 s2 p2 k2 c2 q2 l2 d2 sz2 pz2 kz2 cz2 qz2 lz2 dz2 x2 y2 (jof (a, b, x1, y1)) (jof (a', b', x2, y2)) pr w (JGood.of hl1.1 hl1.2) (JGood.of hl2.1 hl2.2) (by omega) fun W hW =>
    jTwo_ok s1 p1 k1 c1 q1 l1 d1 sz1 pz1 kz1 cz1 qz1 lz1 dz1 x1 y1 s2 p2 k2 c2 q2 l2 d2 sz2 pz2 kz2 cz2 qz2 lz2 dz2 x2 y2 a b a' b' (pr : Int) W (ha.below hW) (hb.below hW) (ha'.below hW) (hb'.below hW) hl1.1 hl1.2 hl2.1 hl2.2 (by omega) (by omega)
 ·have hc := rop_large (p := p) (f := sminus) hL
  rw [hc.1, hc.2]
  exact jSub_err s1 p1 k1 c1 q1 l1 d1 sz1 pz1 kz1 cz1 qz1 lz1 dz1 x1 y1 s2 p2 k2 c2 q2 l2 d2 sz2 pz2 kz2 cz2 qz2 lz2 dz2 x2 y2 p 1 w (.inl rfl) fun W hW => by
   cases hl : ilarge (a, b, x1, y1)
   ·rw [hl, Bool.false_or] at hL
    exact jTwo_l2 s1 p1 k1 c1 q1 l1 d1 sz1 pz1 kz1 cz1 qz1 lz1 dz1 x1 y1 s2 p2 k2 c2 q2 l2 d2 sz2 pz2 kz2 cz2 qz2 lz2 dz2 x2 y2 a b a' b' p W (ha.below hW) (hb.below hW) (ha'.below hW) (hb'.below hW) hl hL
   ·exact jTwo_l1 s1 p1 k1 c1 q1 l1 d1 sz1 pz1 kz1 cz1 qz1 lz1 dz1 x1 y1 s2 p2 k2 c2 q2 l2 d2 sz2 pz2 kz2 cz2 qz2 lz2 dz2 x2 y2 a b p W (ha.below hW) (hb.below hW) hl
end Go.Proofs.YtpdpabpdejmdbaaGreatDoor
namespace Go.Proofs.YtpdpabpdejmdbaaGreatDoor
open Go.RowKit Dg
theorem IntervalAdds_iv (s1 : Bool) (p1 : Option Addr) (k1 c1 : Nat) (q1 : Option Addr) (l1 d1 : Nat) (sz1 : Bool) (pz1 : Option Addr) (kz1 cz1 : Nat) (qz1 : Option Addr) (lz1 dz1 : Nat) (x1 : Bool) (y1 : Bool) (s2 : Bool) (p2 : Option Addr) (k2 c2 : Nat) (q2 : Option Addr) (l2 d2 : Nat) (sz2 : Bool) (pz2 : Option Addr) (kz2 cz2 : Nat) (qz2 : Option Addr) (lz2 dz2 : Nat) (x2 : Bool) (y2 : Bool) (p : Int) (a b a' b' : Bool × Nat × Nat) (w : World) (ha : NRep w (.agg #[.bool s1, .slice p1 k1 c1, .slice q1 l1 d1]) a) (hb : NRep w (.agg #[.bool sz1, .slice pz1 kz1 cz1, .slice qz1 lz1 dz1]) b) (ha' : NRep w (.agg #[.bool s2, .slice p2 k2 c2, .slice q2 l2 d2]) a') (hb' : NRep w (.agg #[.bool sz2, .slice pz2 kz2 cz2, .slice qz2 lz2 dz2]) b') (ht : TabOk w) :
  Calls Tryz.prog 11 #[.agg #[.bool s1, .slice p1 k1 c1, .slice q1 l1 d1, .bool sz1, .slice pz1 kz1 cz1, .slice qz1 lz1 dz1, .bool x1, .bool y1], .agg #[.bool s2, .slice p2 k2 c2, .slice q2 l2 d2, .bool sz2, .slice pz2 kz2 cz2, .slice qz2 lz2 dz2, .bool x2, .bool y2], .int .i64 p] w fun e w' => e = .returned (.bool true) ∧ Below w.heap.size w w' := by
 have HP0 := hid (fun (W : World) (hW : Below w.heap.size w W) => iAdd_any s1 p1 k1 c1 q1 l1 d1 sz1 pz1 kz1 cz1 qz1 lz1 dz1 x1 y1 s2 p2 k2 c2 q2 l2 d2 sz2 pz2 kz2 cz2 qz2 lz2 dz2 x2 y2 p a b a' b' W (ha.below hW) (hb.below hW) (ha'.below hW) (hb'.below hW) (ht.below hW))
 have HR0 := hid (fun (W : World) (hW : Below w.heap.size w W) => jAdd_any s1 p1 k1 c1 q1 l1 d1 sz1 pz1 kz1 cz1 qz1 lz1 dz1 x1 y1 s2 p2 k2 c2 q2 l2 d2 sz2 pz2 kz2 cz2 qz2 lz2 dz2 x2 y2 p a b a' b' W (ha.below hW) (hb.below hW) (ha'.below hW) (hb'.below hW))
 have HI0 := hid (fun (W : World) (s5 : Bool) (p5 : Option Addr) (k5 c5 : Nat) (q5 : Option Addr) (l5 d5 : Nat) (sz5 : Bool) (pz5 : Option Addr) (kz5 cz5 : Nat) (qz5 : Option Addr) (lz5 dz5 : Nat) (x5 : Bool) (y5 : Bool) (s6 : Bool) (p6 : Option Addr) (k6 c6 : Nat) (q6 : Option Addr) (l6 d6 : Nat) (sz6 : Bool) (pz6 : Option Addr) (kz6 cz6 : Nat) (qz6 : Option Addr) (lz6 dz6 : Nat) (x6 : Bool) (y6 : Bool) (h : GRep W (.agg #[.bool s5, .slice p5 k5 c5, .slice q5 l5 d5, .bool sz5, .slice pz5 kz5 cz5, .slice qz5 lz5 dz5, .bool x5, .bool y5]) (rval p splus (a, b, x1, y1) (a', b', x2, y2))) (h' : GRep W (.agg #[.bool s6, .slice p6 k6 c6, .slice q6 l6 d6, .bool sz6, .slice pz6 kz6 cz6, .slice qz6 lz6 dz6, .bool x6, .bool y6]) (rval p splus (a, b, x1, y1) (a', b', x2, y2))) => is3_any s5 p5 k5 c5 q5 l5 d5 sz5 pz5 kz5 cz5 qz5 lz5 dz5 x5 y5 s6 p6 k6 c6 q6 l6 d6 sz6 pz6 kz6 cz6 qz6 lz6 dz6 x6 y6 (rcode p splus (a, b, x1, y1) (a', b', x2, y2)) _ W (rop_ok rop_plus p) (rop_err p _ _ _) h h')
 have HP1 := hid (fun (W : World) (hW : Below w.heap.size w W) => iSub_any s1 p1 k1 c1 q1 l1 d1 sz1 pz1 kz1 cz1 qz1 lz1 dz1 x1 y1 s2 p2 k2 c2 q2 l2 d2 sz2 pz2 kz2 cz2 qz2 lz2 dz2 x2 y2 p a b a' b' W (ha.below hW) (hb.below hW) (ha'.below hW) (hb'.below hW) (ht.below hW))
 have HR1 := hid (fun (W : World) (hW : Below w.heap.size w W) => jSub_any s1 p1 k1 c1 q1 l1 d1 sz1 pz1 kz1 cz1 qz1 lz1 dz1 x1 y1 s2 p2 k2 c2 q2 l2 d2 sz2 pz2 kz2 cz2 qz2 lz2 dz2 x2 y2 p a b a' b' W (ha.below hW) (hb.below hW) (ha'.below hW) (hb'.below hW))
 have HI1 := hid (fun (W : World) (s5 : Bool) (p5 : Option Addr) (k5 c5 : Nat) (q5 : Option Addr) (l5 d5 : Nat) (sz5 : Bool) (pz5 : Option Addr) (kz5 cz5 : Nat) (qz5 : Option Addr) (lz5 dz5 : Nat) (x5 : Bool) (y5 : Bool) (s6 : Bool) (p6 : Option Addr) (k6 c6 : Nat) (q6 : Option Addr) (l6 d6 : Nat) (sz6 : Bool) (pz6 : Option Addr) (kz6 cz6 : Nat) (qz6 : Option Addr) (lz6 dz6 : Nat) (x6 : Bool) (y6 : Bool) (h : GRep W (.agg #[.bool s5, .slice p5 k5 c5, .slice q5 l5 d5, .bool sz5, .slice pz5 kz5 cz5, .slice qz5 lz5 dz5, .bool x5, .bool y5]) (rval p sminus (a, b, x1, y1) (a', b', x2, y2))) (h' : GRep W (.agg #[.bool s6, .slice p6 k6 c6, .slice q6 l6 d6, .bool sz6, .slice pz6 kz6 cz6, .slice qz6 lz6 dz6, .bool x6, .bool y6]) (rval p sminus (a, b, x1, y1) (a', b', x2, y2))) => is3_any s5 p5 k5 c5 q5 l5 d5 sz5 pz5 kz5 cz5 qz5 lz5 dz5 x5 y5 s6 p6 k6 c6 q6 l6 d6 sz6 pz6 kz6 cz6 qz6 lz6 dz6 x6 y6 (rcode p sminus (a, b, x1, y1) (a', b', x2, y2)) _ W (rop_ok rop_minus p) (rop_err p _ _ _) h h')
 have HA := hid (fun (W : World) (hW : Below w.heap.size w W) => awake3_any W (ht.below hW))
 clear ha hb ha' hb' ht
 obtain ⟨cc0, hc⟩ : ∃ r, r = rcode p splus (a, b, x1, y1) (a', b', x2, y2) := ⟨_, rfl⟩
 obtain ⟨D0, hD⟩ : ∃ r, r = rval p splus (a, b, x1, y1) (a', b', x2, y2) := ⟨_, rfl⟩
 rw [← hc, ← hD] at HP0 HR0 HI0
 clear hc hD
 obtain ⟨cc1, hc⟩ : ∃ r, r = rcode p sminus (a, b, x1, y1) (a', b', x2, y2) := ⟨_, rfl⟩
 obtain ⟨D1, hD⟩ : ∃ r, r = rval p sminus (a, b, x1, y1) (a', b', x2, y2) := ⟨_, rfl⟩
 rw [← hc, ← hD] at HP1 HR1 HI1
 clear hc hD
 go_enter Tryz.func11, Tryz.ntmps11
 go_wp2_with fail
 have HV := hid (pre2 w [.bool s1, .slice p1 k1 c1, .slice q1 l1 d1, .bool sz1, .slice pz1 kz1 cz1, .slice qz1 lz1 dz1, .bool x1, .bool y1] [.bool s2, .slice p2 k2 c2, .slice q2 l2 d2, .bool sz2, .slice pz2 kz2 cz2, .slice qz2 lz2 dz2, .bool x2, .bool y2] 26 26 nd8 nd8)
 generalize (w.alloc (.cells #[.bool s1, .slice p1 k1 c1, .slice q1 l1 d1, .bool sz1, .slice pz1 kz1 cz1, .slice qz1 lz1 dz1, .bool x1, .bool y1] 26)).alloc (.cells #[.bool s2, .slice p2 k2 c2, .slice q2 l2 d2, .bool sz2, .slice pz2 kz2 cz2, .slice qz2 lz2 dz2, .bool x2, .bool y2] 26) = W0 at *
 have HB0 := hid (HV.out.2.2)
 have Hx0 := hid (HV.out.1)
 have Hx1 := hid (HV.out.2.1)
 clear HV
 refine (HP0.out _ (HB0.out)).mono ?_
 rintro e w11 ⟨s11, p11, k11, c11, q11, l11, d11, sz11, pz11, kz11, cz11, qz11, lz11, dz11, x11, y11, rfl, hG11, hB11⟩
 have Hs1_x0 := hid ((Hx0.out).below hB11)
 have Hs1_x1 := hid ((Hx1.out).below hB11)
 have HB1 := hid ((HB0.out).trans ((hB11).mono (HB0.out).size))
 go_upto_region 2 with fail
 have HX11 := hid (pre1 w11 [.bool s11, .slice p11 k11 c11, .slice q11 l11 d11, .bool sz11, .slice pz11 kz11 cz11, .slice qz11 lz11 dz11, .bool x11, .bool y11] 26 nd8)
 have hlt11_x0 := (Hs1_x0.out).lt
 have hlt11_x1 := (Hs1_x1.out).lt
 generalize w11.alloc (.cells #[.bool s11, .slice p11 k11 c11, .slice q11 l11 d11, .bool sz11, .slice pz11 kz11 cz11, .slice qz11 lz11 dz11, .bool x11, .bool y11] 26) = W11 at *
 have Hs2_x0 := hid ((Hs1_x0.out).below HX11.out.2)
 have Hs2_x1 := hid ((Hs1_x1.out).below HX11.out.2)
 have Hs2_g11 := hid ((hG11.out).below HX11.out.2)
 have HB2 := hid ((HB1.out).trans ((HX11.out.2).mono (HB1.out).size))
 have Hb11 := hid HX11.out.1
 obtain ⟨m0_0, m0_1, m0_2, m0_3, m0_4, m0_5, m0_6, m0_7, _⟩ := (Hs2_x0.out).cells8
 obtain ⟨m1_0, m1_1, m1_2, m1_3, m1_4, m1_5, m1_6, m1_7, _⟩ := (Hs2_x1.out).cells8
 obtain ⟨m2_0, m2_1, m2_2, m2_3, m2_4, m2_5, m2_6, m2_7, _⟩ := (Hb11.out).cells8
 go_wp2_with fail
 refine (HR0.out _ (HB2.out)).mono ?_
 rintro e w12 ⟨s12, p12, k12, c12, q12, l12, d12, sz12, pz12, kz12, cz12, qz12, lz12, dz12, x12, y12, rfl, hG12, hB12⟩
 clear m0_0 m0_1 m0_2 m0_3 m0_4 m0_5 m0_6 m0_7 m1_0 m1_1 m1_2 m1_3 m1_4 m1_5 m1_6 m1_7 m2_0 m2_1 m2_2 m2_3 m2_4 m2_5 m2_6 m2_7
 have Hs3_x0 := hid ((Hs2_x0.out).below hB12)
 have Hs3_x1 := hid ((Hs2_x1.out).below hB12)
 have Hs3_g11 := hid ((Hs2_g11.out).below hB12)
 have Hs3_b11 := hid ((Hb11.out).below hB12)
 have HB3 := hid ((HB2.out).trans ((hB12).mono (HB2.out).size))
 go_upto_region 3 with fail
 have HX12 := hid (pre1 w12 [.bool s12, .slice p12 k12 c12, .slice q12 l12 d12, .bool sz12, .slice pz12 kz12 cz12, .slice qz12 lz12 dz12, .bool x12, .bool y12] 26 nd8)
 have hlt12_x0 := (Hs3_x0.out).lt
 have hlt12_x1 := (Hs3_x1.out).lt
 have hlt12_b11 := (Hs3_b11.out).lt
 generalize w12.alloc (.cells #[.bool s12, .slice p12 k12 c12, .slice q12 l12 d12, .bool sz12, .slice pz12 kz12 cz12, .slice qz12 lz12 dz12, .bool x12, .bool y12] 26) = W12 at *
 have Hs4_x0 := hid ((Hs3_x0.out).below HX12.out.2)
 have Hs4_x1 := hid ((Hs3_x1.out).below HX12.out.2)
 have Hs4_g11 := hid ((Hs3_g11.out).below HX12.out.2)
 have Hs4_b11 := hid ((Hs3_b11.out).below HX12.out.2)
 have Hs4_g12 := hid ((hG12.out).below HX12.out.2)
 have HB4 := hid ((HB3.out).trans ((HX12.out.2).mono (HB3.out).size))
 have Hb12 := hid HX12.out.1
 obtain ⟨m0_0, m0_1, m0_2, m0_3, m0_4, m0_5, m0_6, m0_7, _⟩ := (Hs4_x0.out).cells8
 obtain ⟨m1_0, m1_1, m1_2, m1_3, m1_4, m1_5, m1_6, m1_7, _⟩ := (Hs4_x1.out).cells8
 obtain ⟨m2_0, m2_1, m2_2, m2_3, m2_4, m2_5, m2_6, m2_7, _⟩ := (Hs4_b11.out).cells8
 obtain ⟨m3_0, m3_1, m3_2, m3_3, m3_4, m3_5, m3_6, m3_7, _⟩ := (Hb12.out).cells8
 go_wp2_with fail
 refine (HP1.out _ (HB4.out)).mono ?_
 rintro e w13 ⟨s13, p13, k13, c13, q13, l13, d13, sz13, pz13, kz13, cz13, qz13, lz13, dz13, x13, y13, rfl, hG13, hB13⟩
 clear m0_0 m0_1 m0_2 m0_3 m0_4 m0_5 m0_6 m0_7 m1_0 m1_1 m1_2 m1_3 m1_4 m1_5 m1_6 m1_7 m2_0 m2_1 m2_2 m2_3 m2_4 m2_5 m2_6 m2_7 m3_0 m3_1 m3_2 m3_3 m3_4 m3_5 m3_6 m3_7
 have Hs5_x0 := hid ((Hs4_x0.out).below hB13)
 have Hs5_x1 := hid ((Hs4_x1.out).below hB13)
 have Hs5_g11 := hid ((Hs4_g11.out).below hB13)
 have Hs5_b11 := hid ((Hs4_b11.out).below hB13)
 have Hs5_g12 := hid ((Hs4_g12.out).below hB13)
 have Hs5_b12 := hid ((Hb12.out).below hB13)
 have HB5 := hid ((HB4.out).trans ((hB13).mono (HB4.out).size))
 go_upto_region 4 with fail
 have HX13 := hid (pre1 w13 [.bool s13, .slice p13 k13 c13, .slice q13 l13 d13, .bool sz13, .slice pz13 kz13 cz13, .slice qz13 lz13 dz13, .bool x13, .bool y13] 26 nd8)
 have hlt13_x0 := (Hs5_x0.out).lt
 have hlt13_x1 := (Hs5_x1.out).lt
 have hlt13_b11 := (Hs5_b11.out).lt
 have hlt13_b12 := (Hs5_b12.out).lt
 generalize w13.alloc (.cells #[.bool s13, .slice p13 k13 c13, .slice q13 l13 d13, .bool sz13, .slice pz13 kz13 cz13, .slice qz13 lz13 dz13, .bool x13, .bool y13] 26) = W13 at *
 have Hs6_x0 := hid ((Hs5_x0.out).below HX13.out.2)
 have Hs6_x1 := hid ((Hs5_x1.out).below HX13.out.2)
 have Hs6_g11 := hid ((Hs5_g11.out).below HX13.out.2)
 have Hs6_b11 := hid ((Hs5_b11.out).below HX13.out.2)
 have Hs6_g12 := hid ((Hs5_g12.out).below HX13.out.2)
 have Hs6_b12 := hid ((Hs5_b12.out).below HX13.out.2)
 have Hs6_g13 := hid ((hG13.out).below HX13.out.2)
 have HB6 := hid ((HB5.out).trans ((HX13.out.2).mono (HB5.out).size))
 have Hb13 := hid HX13.out.1
 obtain ⟨m0_0, m0_1, m0_2, m0_3, m0_4, m0_5, m0_6, m0_7, _⟩ := (Hs6_x0.out).cells8
 obtain ⟨m1_0, m1_1, m1_2, m1_3, m1_4, m1_5, m1_6, m1_7, _⟩ := (Hs6_x1.out).cells8
 obtain ⟨m2_0, m2_1, m2_2, m2_3, m2_4, m2_5, m2_6, m2_7, _⟩ := (Hs6_b11.out).cells8
 obtain ⟨m3_0, m3_1, m3_2, m3_3, m3_4, m3_5, m3_6, m3_7, _⟩ := (Hs6_b12.out).cells8
 obtain ⟨m4_0, m4_1, m4_2, m4_3, m4_4, m4_5, m4_6, m4_7, _⟩ := (Hb13.out).cells8
 go_wp2_with fail
 refine (HR1.out _ (HB6.out)).mono ?_
 rintro e w14 ⟨s14, p14, k14, c14, q14, l14, d14, sz14, pz14, kz14, cz14, qz14, lz14, dz14, x14, y14, rfl, hG14, hB14⟩
 clear m0_0 m0_1 m0_2 m0_3 m0_4 m0_5 m0_6 m0_7 m1_0 m1_1 m1_2 m1_3 m1_4 m1_5 m1_6 m1_7 m2_0 m2_1 m2_2 m2_3 m2_4 m2_5 m2_6 m2_7 m3_0 m3_1 m3_2 m3_3 m3_4 m3_5 m3_6 m3_7 m4_0 m4_1 m4_2 m4_3 m4_4 m4_5 m4_6 m4_7
 have Hs7_x0 := hid ((Hs6_x0.out).below hB14)
 have Hs7_x1 := hid ((Hs6_x1.out).below hB14)
 have Hs7_g11 := hid ((Hs6_g11.out).below hB14)
 have Hs7_b11 := hid ((Hs6_b11.out).below hB14)
 have Hs7_g12 := hid ((Hs6_g12.out).below hB14)
 have Hs7_b12 := hid ((Hs6_b12.out).below hB14)
 have Hs7_g13 := hid ((Hs6_g13.out).below hB14)
 have Hs7_b13 := hid ((Hb13.out).below hB14)
 have HB7 := hid ((HB6.out).trans ((hB14).mono (HB6.out).size))
 go_upto_region 5 with fail
 have HX14 := hid (pre1 w14 [.bool s14, .slice p14 k14 c14, .slice q14 l14 d14, .bool sz14, .slice pz14 kz14 cz14, .slice qz14 lz14 dz14, .bool x14, .bool y14] 26 nd8)
 have hlt14_x0 := (Hs7_x0.out).lt
 have hlt14_x1 := (Hs7_x1.out).lt
 have hlt14_b11 := (Hs7_b11.out).lt
 have hlt14_b12 := (Hs7_b12.out).lt
 have hlt14_b13 := (Hs7_b13.out).lt
 generalize w14.alloc (.cells #[.bool s14, .slice p14 k14 c14, .slice q14 l14 d14, .bool sz14, .slice pz14 kz14 cz14, .slice qz14 lz14 dz14, .bool x14, .bool y14] 26) = W14 at *
 have Hs8_x0 := hid ((Hs7_x0.out).below HX14.out.2)
 have Hs8_x1 := hid ((Hs7_x1.out).below HX14.out.2)
 have Hs8_g11 := hid ((Hs7_g11.out).below HX14.out.2)
 have Hs8_b11 := hid ((Hs7_b11.out).below HX14.out.2)
 have Hs8_g12 := hid ((Hs7_g12.out).below HX14.out.2)
 have Hs8_b12 := hid ((Hs7_b12.out).below HX14.out.2)
 have Hs8_g13 := hid ((Hs7_g13.out).below HX14.out.2)
 have Hs8_b13 := hid ((Hs7_b13.out).below HX14.out.2)
 have Hs8_g14 := hid ((hG14.out).below HX14.out.2)
 have HB8 := hid ((HB7.out).trans ((HX14.out.2).mono (HB7.out).size))
 have Hb14 := hid HX14.out.1
 obtain ⟨m0_0, m0_1, m0_2, m0_3, m0_4, m0_5, m0_6, m0_7, _⟩ := (Hs8_x0.out).cells8
 obtain ⟨m1_0, m1_1, m1_2, m1_3, m1_4, m1_5, m1_6, m1_7, _⟩ := (Hs8_x1.out).cells8
 obtain ⟨m2_0, m2_1, m2_2, m2_3, m2_4, m2_5, m2_6, m2_7, _⟩ := (Hs8_b11.out).cells8
 obtain ⟨m3_0, m3_1, m3_2, m3_3, m3_4, m3_5, m3_6, m3_7, _⟩ := (Hs8_b12.out).cells8
 obtain ⟨m4_0, m4_1, m4_2, m4_3, m4_4, m4_5, m4_6, m4_7, _⟩ := (Hs8_b13.out).cells8
 obtain ⟨m5_0, m5_1, m5_2, m5_3, m5_4, m5_5, m5_6, m5_7, _⟩ := (Hb14.out).cells8
 go_wp2_with fail
 refine (HI0.out _ s11 p11 k11 c11 q11 l11 d11 sz11 pz11 kz11 cz11 qz11 lz11 dz11 x11 y11 s12 p12 k12 c12 q12 l12 d12 sz12 pz12 kz12 cz12 qz12 lz12 dz12 x12 y12 Hs8_g11.out Hs8_g12.out).mono ?_
 rintro e w15 ⟨rfl, hB15⟩
 clear m0_0 m0_1 m0_2 m0_3 m0_4 m0_5 m0_6 m0_7 m1_0 m1_1 m1_2 m1_3 m1_4 m1_5 m1_6 m1_7 m2_0 m2_1 m2_2 m2_3 m2_4 m2_5 m2_6 m2_7 m3_0 m3_1 m3_2 m3_3 m3_4 m3_5 m3_6 m3_7 m4_0 m4_1 m4_2 m4_3 m4_4 m4_5 m4_6 m4_7 m5_0 m5_1 m5_2 m5_3 m5_4 m5_5 m5_6 m5_7
 have Hs9_x0 := hid ((Hs8_x0.out).below hB15)
 have Hs9_x1 := hid ((Hs8_x1.out).below hB15)
 have Hs9_g11 := hid ((Hs8_g11.out).below hB15)
 have Hs9_b11 := hid ((Hs8_b11.out).below hB15)
 have Hs9_g12 := hid ((Hs8_g12.out).below hB15)
 have Hs9_b12 := hid ((Hs8_b12.out).below hB15)
 have Hs9_g13 := hid ((Hs8_g13.out).below hB15)
 have Hs9_b13 := hid ((Hs8_b13.out).below hB15)
 have Hs9_g14 := hid ((Hs8_g14.out).below hB15)
 have Hs9_b14 := hid ((Hb14.out).below hB15)
 have HB9 := hid ((HB8.out).trans ((hB15).mono (HB8.out).size))
 obtain ⟨m0_0, m0_1, m0_2, m0_3, m0_4, m0_5, m0_6, m0_7, _⟩ := (Hs9_x0.out).cells8
 obtain ⟨m1_0, m1_1, m1_2, m1_3, m1_4, m1_5, m1_6, m1_7, _⟩ := (Hs9_x1.out).cells8
 obtain ⟨m2_0, m2_1, m2_2, m2_3, m2_4, m2_5, m2_6, m2_7, _⟩ := (Hs9_b11.out).cells8
 obtain ⟨m3_0, m3_1, m3_2, m3_3, m3_4, m3_5, m3_6, m3_7, _⟩ := (Hs9_b12.out).cells8
 obtain ⟨m4_0, m4_1, m4_2, m4_3, m4_4, m4_5, m4_6, m4_7, _⟩ := (Hs9_b13.out).cells8
 obtain ⟨m5_0, m5_1, m5_2, m5_3, m5_4, m5_5, m5_6, m5_7, _⟩ := (Hs9_b14.out).cells8
 go_wp2_with fail
 refine (HI1.out _ s13 p13 k13 c13 q13 l13 d13 sz13 pz13 kz13 cz13 qz13 lz13 dz13 x13 y13 s14 p14 k14 c14 q14 l14 d14 sz14 pz14 kz14 cz14 qz14 lz14 dz14 x14 y14 Hs9_g13.out Hs9_g14.out).mono ?_
 rintro e w16 ⟨rfl, hB16⟩
 clear m0_0 m0_1 m0_2 m0_3 m0_4 m0_5 m0_6 m0_7 m1_0 m1_1 m1_2 m1_3 m1_4 m1_5 m1_6 m1_7 m2_0 m2_1 m2_2 m2_3 m2_4 m2_5 m2_6 m2_7 m3_0 m3_1 m3_2 m3_3 m3_4 m3_5 m3_6 m3_7 m4_0 m4_1 m4_2 m4_3 m4_4 m4_5 m4_6 m4_7 m5_0 m5_1 m5_2 m5_3 m5_4 m5_5 m5_6 m5_7
 have Hs10_x0 := hid ((Hs9_x0.out).below hB16)
 have Hs10_x1 := hid ((Hs9_x1.out).below hB16)
 have Hs10_g11 := hid ((Hs9_g11.out).below hB16)
 have Hs10_b11 := hid ((Hs9_b11.out).below hB16)
 have Hs10_g12 := hid ((Hs9_g12.out).below hB16)
 have Hs10_b12 := hid ((Hs9_b12.out).below hB16)
 have Hs10_g13 := hid ((Hs9_g13.out).below hB16)
 have Hs10_b13 := hid ((Hs9_b13.out).below hB16)
 have Hs10_g14 := hid ((Hs9_g14.out).below hB16)
 have Hs10_b14 := hid ((Hs9_b14.out).below hB16)
 have HB10 := hid ((HB9.out).trans ((hB16).mono (HB9.out).size))
 have HZ0 := hid (HB10.out)
 clear hG11 hG12 hG13 hG14
 go_wp2_with fail
 refine (HA.out _ HZ0.out).mono ?_
 rintro e w17 ⟨rfl, hB17⟩
 have HZ1 := hid ((HZ0.out).trans (hB17.mono (HZ0.out).size))
 go_wp2_with fail
 go_ret
 exact ⟨rfl, HZ1.out⟩
theorem IntervalAdds_any (v u : Value) (i j : (Bool × Nat × Nat) × (Bool × Nat × Nat) × Bool × Bool) (p : Int) (w : World) (ha : IRep w v i) (hb : IRep w u j) (_hlo : -9223372036854775808 ≤ p) (_hhi : p < 9223372036854775808) (ht : TabOk w) :
  Calls Tryz.prog 11 #[v, u, .int .i64 p] w fun e w' => e = .returned (.bool true) ∧ Below w.heap.size w w' := by
 obtain ⟨s1, p1, k1, c1, q1, l1, d1, sz1, pz1, kz1, cz1, qz1, lz1, dz1, x1, y1, rfl, h1, h2, rfl, rfl⟩ := ha
 obtain ⟨s2, p2, k2, c2, q2, l2, d2, sz2, pz2, kz2, cz2, qz2, lz2, dz2, x2, y2, rfl, h3, h4, rfl, rfl⟩ := hb
 exact IntervalAdds_iv s1 p1 k1 c1 q1 l1 d1 sz1 pz1 kz1 cz1 qz1 lz1 dz1 _ _ s2 p2 k2 c2 q2 l2 d2 sz2 pz2 kz2 cz2 qz2 lz2 dz2 _ _ p i.1 i.2.1 j.1 j.2.1 w h1 h2 h3 h4 ht
end Go.Proofs.YtpdpabpdejmdbaaGreatDoor
