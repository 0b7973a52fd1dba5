/- LawLeaQ: own parts. -/
import Derived.Test.YtimjoejkjgklaaaGreatDoorRestQ
import Derived.Test.YtimjoejkjgklaaaGreatDoorAbQ
import Derived.Test.YtimjoejkjgklaaaGreatDoorAwake
set_option maxHeartbeats 8000000
set_option maxRecDepth 100000
namespace Go.Proofs.YtimjoejkjgklaaaGreatDoor
open Go.RowKit Dg
open List (setIfInBounds_toArray set_cons_zero set_cons_succ)
theorem i2_inside (a b a' b' : Bool × Nat × Nat) (x y x' y' : Bool) : i2val (a, b, x, y) (a', b', x', y') = jin2 (a, b, x, y) (a', b', x', y') := by
 unfold i2val jin2
 cases h : (ilarge (a, b, x, y) || ilarge (a', b', x', y'))
 ·rw [Bool.or_eq_false_iff] at h
  have hl1 : (large a.2.1 a.2.2 || large b.2.1 b.2.2) = false := h.1
  have hl2 : (large a'.2.1 a'.2.2 || large b'.2.1 b'.2.2) = false := h.2
  rw [Bool.or_eq_false_iff] at hl1 hl2
  show sinside (srd (a, b, x, y)) (srd (a', b', x', y')) = jwithin (jof (a, b, x, y)) (jof (a', b', x', y'))
  cases he : (srd (a, b, x, y)).2.2
  ·cases he' : (srd (a', b', x', y')).2.2
   ·exact (SimQ.of hl1.1 hl1.2 he).inside (SimQ.of hl2.1 hl2.2 he')
   ·rw [inside_empty hl1.1 hl1.2 hl2.1 hl2.2 he he', jof_out he', jof_in he]
    rfl
  ·rw [jof_out he]
   unfold sinside
   rw [he]
   rfl
 ·rfl
theorem lawInside_any (s1 : Bool) (p1 : Option Addr) (k1 c1 : Nat) (q1 : Option Addr) (l1 d1 : Nat) (sz1 : Bool) (pz1 : Option Addr) (kz1 cz1 : Nat) (qz1 : Option Addr) (lz1 dz1 : Nat) (x1 : Bool) (y1 : Bool) (s2 : Bool) (p2 : Option Addr) (k2 c2 : Nat) (q2 : Option Addr) (l2 d2 : Nat) (sz2 : Bool) (pz2 : Option Addr) (kz2 cz2 : Nat) (qz2 : Option Addr) (lz2 dz2 : Nat) (x2 : Bool) (y2 : Bool) (a b a' b' : Bool × Nat × Nat) (w : World) (ha : NRep w (.agg #[.bool s1, .slice p1 k1 c1, .slice q1 l1 d1]) a) (hb : NRep w (.agg #[.bool sz1, .slice pz1 kz1 cz1, .slice qz1 lz1 dz1]) b) (ha' : NRep w (.agg #[.bool s2, .slice p2 k2 c2, .slice q2 l2 d2]) a') (hb' : NRep w (.agg #[.bool sz2, .slice pz2 kz2 cz2, .slice qz2 lz2 dz2]) b') (ht : TabOk w) :
  Calls Tryz.prog 37 #[.agg #[.bool s1, .slice p1 k1 c1, .slice q1 l1 d1, .bool sz1, .slice pz1 kz1 cz1, .slice qz1 lz1 dz1, .bool x1, .bool y1], .agg #[.bool s2, .slice p2 k2 c2, .slice q2 l2 d2, .bool sz2, .slice pz2 kz2 cz2, .slice qz2 lz2 dz2, .bool x2, .bool y2]] w fun e w' => e = .returned (.bool (jin2 (a, b, x1, y1) (a', b', x2, y2))) ∧ Below w.heap.size w w' := by
 have HC := hid (fun (W : World) (hW : Below w.heap.size w W) => iInside_any s1 p1 k1 c1 q1 l1 d1 sz1 pz1 kz1 cz1 qz1 lz1 dz1 x1 y1 s2 p2 k2 c2 q2 l2 d2 sz2 pz2 kz2 cz2 qz2 lz2 dz2 x2 y2 a b a' b' W (ha.below hW) (hb.below hW) (ha'.below hW) (hb'.below hW) (ht.below hW))
 rw [i2_inside] at HC
 have hz : m2code (a, b, x1, y1) (a', b', x2, y2) = 0 ∨ (m2code (a, b, x1, y1) (a', b', x2, y2) = 1 ∧ jin2 (a, b, x1, y1) (a', b', x2, y2) = false) := by
  unfold m2code jin2
  cases ilarge (a, b, x1, y1) || ilarge (a', b', x2, y2)
  ·exact .inl rfl
  ·exact .inr ⟨rfl, rfl⟩
 obtain ⟨r, hr⟩ : ∃ r, r = jin2 (a, b, x1, y1) (a', b', x2, y2) := ⟨_, rfl⟩
 obtain ⟨c, hc⟩ : ∃ r, r = m2code (a, b, x1, y1) (a', b', x2, y2) := ⟨_, rfl⟩
 rw [← hr, ← hc] at HC hz
 rw [← hr]
 clear ha hb ha' hb' ht hr hc
 rcases hz with hz | ⟨hz, hv⟩
 ·subst hz
  cases r
  all_goals
   go_enter Tryz.func37, Tryz.ntmps37
   go_wp2_with fail
   generalize hA : World.alloc _ _ = W0
   have HV := hid (pre2_o hA nd8 nd8)
   clear hA
   refine (HC.out _ HV.out.2.2).mono ?_
   rintro e w1 ⟨rfl, hB1⟩
   have HE := hid (HV.out.2.2.trans (hB1.mono HV.out.2.2.size))
   clear hB1
   go_wp2_with fail
   go_ret
   exact ⟨rfl, HE.out⟩
 ·subst hz hv
  go_enter Tryz.func37, Tryz.ntmps37
  go_wp2_with fail
  generalize hA : World.alloc _ _ = W0
  have HV := hid (pre2_o hA nd8 nd8)
  clear hA
  refine (HC.out _ HV.out.2.2).mono ?_
  rintro e w1 ⟨rfl, hB1⟩
  have HE := hid (HV.out.2.2.trans (hB1.mono HV.out.2.2.size))
  clear hB1
  go_wp2_with fail
  go_ret
  exact ⟨rfl, HE.out⟩
theorem lawInside_J (s1 : Bool) (p1 : Option Addr) (k1 c1 : Nat) (q1 : Option Addr) (l1 d1 : Nat) (sz1 : Bool) (pz1 : Option Addr) (kz1 cz1 : Nat) (qz1 : Option Addr) (lz1 dz1 : Nat) (x1 : Bool) (y1 : Bool) (s2 : Bool) (p2 : Option Addr) (k2 c2 : Nat) (q2 : Option Addr) (l2 d2 : Nat) (sz2 : Bool) (pz2 : Option Addr) (kz2 cz2 : Nat) (qz2 : Option Addr) (lz2 dz2 : Nat) (x2 : Bool) (y2 : Bool) (r t : (Bool × Nat × Nat) × (Bool × Nat × Nat) × Bool × Bool × Bool) (w : World) (h : JArg w (.agg #[.bool s1, .slice p1 k1 c1, .slice q1 l1 d1, .bool sz1, .slice pz1 kz1 cz1, .slice qz1 lz1 dz1, .bool x1, .bool y1]) r) (h' : JArg w (.agg #[.bool s2, .slice p2 k2 c2, .slice q2 l2 d2, .bool sz2, .slice pz2 kz2 cz2, .slice qz2 lz2 dz2, .bool x2, .bool y2]) t) (ht : TabOk w) :
  Calls Tryz.prog 37 #[.agg #[.bool s1, .slice p1 k1 c1, .slice q1 l1 d1, .bool sz1, .slice pz1 kz1 cz1, .slice qz1 lz1 dz1, .bool x1, .bool y1], .agg #[.bool s2, .slice p2 k2 c2, .slice q2 l2 d2, .bool sz2, .slice pz2 kz2 cz2, .slice qz2 lz2 dz2, .bool x2, .bool y2]] w fun e w' => e = .returned (.bool (jwithin r t)) ∧ Below w.heap.size w w' := by
 obtain ⟨s3, p3, k3, c3, q3, l3, d3, sz3, pz3, kz3, cz3, qz3, lz3, dz3, x3, y3, hv, a, b, h1, h2, h3, h4, rfl⟩ := h
 obtain ⟨s4, p4, k4, c4, q4, l4, d4, sz4, pz4, kz4, cz4, qz4, lz4, dz4, x4, y4, hv', a', b', g1, g2, g3, g4, rfl⟩ := h'
 rw [hv, hv']
 have hc := lawInside_any s3 p3 k3 c3 q3 l3 d3 sz3 pz3 kz3 cz3 qz3 lz3 dz3 x3 y3 s4 p4 k4 c4 q4 l4 d4 sz4 pz4 kz4 cz4 qz4 lz4 dz4 x4 y4 a b a' b' w h1 h2 g1 g2 ht
 have e2 : jin2 (a, b, x3, y3) (a', b', x4, y4) = jwithin (jof (a, b, x3, y3)) (jof (a', b', x4, y4)) := by unfold jin2; rw [small2 h3 h4 g3 g4]; rfl
 rw [e2] at hc
 exact hc
theorem IntervalLeast_err (s1 : Bool) (p1 : Option Addr) (k1 c1 : Nat) (q1 : Option Addr) (l1 d1 : Nat) (sz1 : Bool) (pz1 : Option Addr) (kz1 cz1 : Nat) (qz1 : Option Addr) (lz1 dz1 : Nat) (x1 : Bool) (y1 : Bool) (s2 : Bool) (p2 : Option Addr) (k2 c2 : Nat) (q2 : Option Addr) (l2 d2 : Nat) (sz2 : Bool) (pz2 : Option Addr) (kz2 cz2 : Nat) (qz2 : Option Addr) (lz2 dz2 : Nat) (x2 : Bool) (y2 : Bool) (p k : Nat) (ce cf : Int) (D1 D2 : (Bool × Nat × Nat) × (Bool × Nat × Nat) × Bool × Bool) (w : World) (hk1 : (p : Int) % 129 = (k : Int)) (hk2 : Int.tmod (p : Int) 129 = (k : Int))
  (h1 : ∀ W, Below w.heap.size w W → Calls Tryz.prog 41 #[.agg #[.bool s1, .slice p1 k1 c1, .slice q1 l1 d1, .bool sz1, .slice pz1 kz1 cz1, .slice qz1 lz1 dz1, .bool x1, .bool y1], .int .i64 (k : Int)] W fun e w' => ∃ s9 p9 k9 c9 q9 l9 d9 sz9 pz9 kz9 cz9 qz9 lz9 dz9 x9 y9, e = .returned (.tuple #[.agg #[.bool s9, .slice p9 k9 c9, .slice q9 l9 d9, .bool sz9, .slice pz9 kz9 cz9, .slice qz9 lz9 dz9, .bool x9, .bool y9], .int .i64 ce]) ∧ Hid (GRep w' (.agg #[.bool s9, .slice p9 k9 c9, .slice q9 l9 d9, .bool sz9, .slice pz9 kz9 cz9, .slice qz9 lz9 dz9, .bool x9, .bool y9]) D1) ∧ Below W.heap.size W w') (h2 : ∀ W, Below w.heap.size w W → Calls Tryz.prog 41 #[.agg #[.bool s2, .slice p2 k2 c2, .slice q2 l2 d2, .bool sz2, .slice pz2 kz2 cz2, .slice qz2 lz2 dz2, .bool x2, .bool y2], .int .i64 (k : Int)] W fun e w' => ∃ s9 p9 k9 c9 q9 l9 d9 sz9 pz9 kz9 cz9 qz9 lz9 dz9 x9 y9, e = .returned (.tuple #[.agg #[.bool s9, .slice p9 k9 c9, .slice q9 l9 d9, .bool sz9, .slice pz9 kz9 cz9, .slice qz9 lz9 dz9, .bool x9, .bool y9], .int .i64 cf]) ∧ Hid (GRep w' (.agg #[.bool s9, .slice p9 k9 c9, .slice q9 l9 d9, .bool sz9, .slice pz9 kz9 cz9, .slice qz9 lz9 dz9, .bool x9, .bool y9]) D2) ∧ Below W.heap.size W w') (h3 : ∀ W, Below w.heap.size w W → Calls Tryz.prog 20 #[] W fun e w' => e = .returned (.bool true) ∧ Below W.heap.size W w') (hef : ce = 1 ∨ (ce = 0 ∧ cf = 1)) :
  Calls Tryz.prog 9 #[.agg #[.bool s1, .slice p1 k1 c1, .slice q1 l1 d1, .bool sz1, .slice pz1 kz1 cz1, .slice qz1 lz1 dz1, .bool x1, .bool y1], .agg #[.bool s2, .slice p2 k2 c2, .slice q2 l2 d2, .bool sz2, .slice pz2 kz2 cz2, .slice qz2 lz2 dz2, .bool x2, .bool y2], .int .u8 (p : Int)] w fun e w' => e = .returned (.bool true) ∧ Below w.heap.size w w' := by
 have H1 := hid h1
 have H2 := hid h2
 have H3 := hid h3
 clear h1 h2 h3
 rcases hef with rfl | ⟨rfl, rfl⟩
 all_goals
  go_enter Tryz.func9, Tryz.ntmps9
  go_upto_region 1 with fail
  generalize hA : World.alloc _ _ = W0
  have HV := hid (pre2_o hA nd8 nd8)
  clear hA
  obtain ⟨m0, m1, m2, m3, m4, m5, m6, m7, _⟩ := HV.out.1.cells8
  go_wp2_with fail
  refine (H1.out _ HV.out.2.2).mono ?_
  rintro e w1 ⟨s11, p11, k11, c11, q11, l11, d11, sz11, pz11, kz11, cz11, qz11, lz11, dz11, x11, y11, rfl, hG1, hB1⟩
  clear m0 m1 m2 m3 m4 m5 m6 m7 hG1
  have Hb := hid (HV.out.2.1.below hB1)
  have HB := hid (HV.out.2.2.trans (hB1.mono HV.out.2.2.size))
  clear hB1
  go_upto_region 3 with fail
  have HX := hid (pre1 w1 [.bool s11, .slice p11 k11 c11, .slice q11 l11 d11, .bool sz11, .slice pz11 kz11 cz11, .slice qz11 lz11 dz11, .bool x11, .bool y11] 26 nd8)
  generalize w1.alloc (.cells #[.bool s11, .slice p11 k11 c11, .slice q11 l11 d11, .bool sz11, .slice pz11 kz11 cz11, .slice qz11 lz11 dz11, .bool x11, .bool y11] 26) = W1 at *
  replace Hb := hid (Hb.out.below HX.out.2)
  replace HB := hid (HB.out.trans (HX.out.2.mono HB.out.size))
  clear HX
  obtain ⟨m0, m1, m2, m3, m4, m5, m6, m7, _⟩ := Hb.out.cells8
  go_wp2_with fail
  refine (H2.out _ HB.out).mono ?_
  rintro e w2 ⟨s12, p12, k12, c12, q12, l12, d12, sz12, pz12, kz12, cz12, qz12, lz12, dz12, x12, y12, rfl, hG2, hB2⟩
  clear m0 m1 m2 m3 m4 m5 m6 m7 hG2
  replace HB := hid (HB.out.trans (hB2.mono HB.out.size))
  clear hB2
  go_upto_region 4 with fail
  have HX := hid (pre1 w2 [.bool s12, .slice p12 k12 c12, .slice q12 l12 d12, .bool sz12, .slice pz12 kz12 cz12, .slice qz12 lz12 dz12, .bool x12, .bool y12] 26 nd8)
  generalize w2.alloc (.cells #[.bool s12, .slice p12 k12 c12, .slice q12 l12 d12, .bool sz12, .slice pz12 kz12 cz12, .slice qz12 lz12 dz12, .bool x12, .bool y12] 26) = W2 at *
  replace HB := hid (HB.out.trans (HX.out.2.mono HB.out.size))
  clear HX
  go_wp2_with fail
  refine (H3.out _ HB.out).mono ?_
  rintro e w3 ⟨rfl, hB3⟩
  replace HB := hid (HB.out.trans (hB3.mono HB.out.size))
  go_wp2_with fail
  go_ret
  exact ⟨rfl, HB.out⟩
theorem IntervalLeast_sum (s1 : Bool) (p1 : Option Addr) (k1 c1 : Nat) (q1 : Option Addr) (l1 d1 : Nat) (sz1 : Bool) (pz1 : Option Addr) (kz1 cz1 : Nat) (qz1 : Option Addr) (lz1 dz1 : Nat) (x1 : Bool) (y1 : Bool) (s2 : Bool) (p2 : Option Addr) (k2 c2 : Nat) (q2 : Option Addr) (l2 d2 : Nat) (sz2 : Bool) (pz2 : Option Addr) (kz2 cz2 : Nat) (qz2 : Option Addr) (lz2 dz2 : Nat) (x2 : Bool) (y2 : Bool) (p k : Nat) (ra rb R Q : (Bool × Nat × Nat) × (Bool × Nat × Nat) × Bool × Bool × Bool) (b1 : Bool) (s : Int) (D : (Bool × Nat × Nat) × (Bool × Nat × Nat) × Bool × Bool) (S : (Bool × Nat × Nat) × (Bool × Nat × Nat) × Bool × Bool × Bool) (gS : JGood S) (eS : jround S k = S) (w : World) (hk1 : (p : Int) % 129 = (k : Int)) (hk2 : Int.tmod (p : Int) 129 = (k : Int)) (ja : JArg w (.agg #[.bool s1, .slice p1 k1 c1, .slice q1 l1 d1, .bool sz1, .slice pz1 kz1 cz1, .slice qz1 lz1 dz1, .bool x1, .bool y1]) ra) (jb : JArg w (.agg #[.bool s2, .slice p2 k2 c2, .slice q2 l2 d2, .bool sz2, .slice pz2 kz2 cz2, .slice qz2 lz2 dz2, .bool x2, .bool y2]) rb) (gR : JGood R) (gQ : JGood Q) (eR : jround R k = R)
  (i1 : jwithin ra R = true) (i2 : jwithin ra Q = b1) (i3 : b1 = true → jwithin R Q = true) (hs : s = 0) (hD : D = japi S)
  (h1 : ∀ W, Below w.heap.size w W → Calls Tryz.prog 41 #[.agg #[.bool s1, .slice p1 k1 c1, .slice q1 l1 d1, .bool sz1, .slice pz1 kz1 cz1, .slice qz1 lz1 dz1, .bool x1, .bool y1], .int .i64 (k : Int)] W fun e w' => ∃ s9 p9 k9 c9 q9 l9 d9 sz9 pz9 kz9 cz9 qz9 lz9 dz9 x9 y9, e = .returned (.tuple #[.agg #[.bool s9, .slice p9 k9 c9, .slice q9 l9 d9, .bool sz9, .slice pz9 kz9 cz9, .slice qz9 lz9 dz9, .bool x9, .bool y9], .int .i64 0]) ∧ Hid (GRep w' (.agg #[.bool s9, .slice p9 k9 c9, .slice q9 l9 d9, .bool sz9, .slice pz9 kz9 cz9, .slice qz9 lz9 dz9, .bool x9, .bool y9]) (japi R)) ∧ Below W.heap.size W w') (h2 : ∀ W, Below w.heap.size w W → Calls Tryz.prog 41 #[.agg #[.bool s2, .slice p2 k2 c2, .slice q2 l2 d2, .bool sz2, .slice pz2 kz2 cz2, .slice qz2 lz2 dz2, .bool x2, .bool y2], .int .i64 (k : Int)] W fun e w' => ∃ s9 p9 k9 c9 q9 l9 d9 sz9 pz9 kz9 cz9 qz9 lz9 dz9 x9 y9, e = .returned (.tuple #[.agg #[.bool s9, .slice p9 k9 c9, .slice q9 l9 d9, .bool sz9, .slice pz9 kz9 cz9, .slice qz9 lz9 dz9, .bool x9, .bool y9], .int .i64 0]) ∧ Hid (GRep w' (.agg #[.bool s9, .slice p9 k9 c9, .slice q9 l9 d9, .bool sz9, .slice pz9 kz9 cz9, .slice qz9 lz9 dz9, .bool x9, .bool y9]) (japi Q)) ∧ Below W.heap.size W w') (h3 : ∀ W, Below w.heap.size w W → Calls Tryz.prog 20 #[] W fun e w' => e = .returned (.bool true) ∧ Below W.heap.size W w') (h4 : ∀ W (s5 : Bool) (p5 : Option Addr) (k5 c5 : Nat) (q5 : Option Addr) (l5 d5 : Nat) (sz5 : Bool) (pz5 : Option Addr) (kz5 cz5 : Nat) (qz5 : Option Addr) (lz5 dz5 : Nat) (x5 : Bool) (y5 : Bool) (s6 : Bool) (p6 : Option Addr) (k6 c6 : Nat) (q6 : Option Addr) (l6 d6 : Nat) (sz6 : Bool) (pz6 : Option Addr) (kz6 cz6 : Nat) (qz6 : Option Addr) (lz6 dz6 : Nat) (x6 : Bool) (y6 : Bool) (r : (Bool × Nat × Nat) × (Bool × Nat × Nat) × Bool × Bool × Bool), JGood r → GRep W (.agg #[.bool s5, .slice p5 k5 c5, .slice q5 l5 d5, .bool sz5, .slice pz5 kz5 cz5, .slice qz5 lz5 dz5, .bool x5, .bool y5]) (japi r) → GRep W (.agg #[.bool s6, .slice p6 k6 c6, .slice q6 l6 d6, .bool sz6, .slice pz6 kz6 cz6, .slice qz6 lz6 dz6, .bool x6, .bool y6]) (japi r) → Calls Tryz.prog 18 #[.agg #[.bool s5, .slice p5 k5 c5, .slice q5 l5 d5, .bool sz5, .slice pz5 kz5 cz5, .slice qz5 lz5 dz5, .bool x5, .bool y5], .int .i64 0, .agg #[.bool s6, .slice p6 k6 c6, .slice q6 l6 d6, .bool sz6, .slice pz6 kz6 cz6, .slice qz6 lz6 dz6, .bool x6, .bool y6], .int .i64 0] W fun e w' => e = .returned (.bool true) ∧ Below W.heap.size W w') (h5 : ∀ W, Below w.heap.size w W → ∀ (s5 : Bool) (p5 : Option Addr) (k5 c5 : Nat) (q5 : Option Addr) (l5 d5 : Nat) (sz5 : Bool) (pz5 : Option Addr) (kz5 cz5 : Nat) (qz5 : Option Addr) (lz5 dz5 : Nat) (x5 : Bool) (y5 : Bool) (s6 : Bool) (p6 : Option Addr) (k6 c6 : Nat) (q6 : Option Addr) (l6 d6 : Nat) (sz6 : Bool) (pz6 : Option Addr) (kz6 cz6 : Nat) (qz6 : Option Addr) (lz6 dz6 : Nat) (x6 : Bool) (y6 : Bool) (r t : (Bool × Nat × Nat) × (Bool × Nat × Nat) × Bool × Bool × Bool) (b : Bool), jwithin r t = b → JArg W (.agg #[.bool s5, .slice p5 k5 c5, .slice q5 l5 d5, .bool sz5, .slice pz5 kz5 cz5, .slice qz5 lz5 dz5, .bool x5, .bool y5]) r → JArg W (.agg #[.bool s6, .slice p6 k6 c6, .slice q6 l6 d6, .bool sz6, .slice pz6 kz6 cz6, .slice qz6 lz6 dz6, .bool x6, .bool y6]) t → Calls Tryz.prog 37 #[.agg #[.bool s5, .slice p5 k5 c5, .slice q5 l5 d5, .bool sz5, .slice pz5 kz5 cz5, .slice qz5 lz5 dz5, .bool x5, .bool y5], .agg #[.bool s6, .slice p6 k6 c6, .slice q6 l6 d6, .bool sz6, .slice pz6 kz6 cz6, .slice qz6 lz6 dz6, .bool x6, .bool y6]] W fun e w' => e = .returned (.bool b) ∧ Below W.heap.size W w') (h6 : ∀ W, Below w.heap.size w W → ∀ (s5 : Bool) (p5 : Option Addr) (k5 c5 : Nat) (q5 : Option Addr) (l5 d5 : Nat) (sz5 : Bool) (pz5 : Option Addr) (kz5 cz5 : Nat) (qz5 : Option Addr) (lz5 dz5 : Nat) (x5 : Bool) (y5 : Bool) (r : (Bool × Nat × Nat) × (Bool × Nat × Nat) × Bool × Bool × Bool), jround r k = r → JArg W (.agg #[.bool s5, .slice p5 k5 c5, .slice q5 l5 d5, .bool sz5, .slice pz5 kz5 cz5, .slice qz5 lz5 dz5, .bool x5, .bool y5]) r → Calls Tryz.prog 41 #[.agg #[.bool s5, .slice p5 k5 c5, .slice q5 l5 d5, .bool sz5, .slice pz5 kz5 cz5, .slice qz5 lz5 dz5, .bool x5, .bool y5], .int .i64 (k : Int)] W fun e w' => ∃ s9 p9 k9 c9 q9 l9 d9 sz9 pz9 kz9 cz9 qz9 lz9 dz9 x9 y9, e = .returned (.tuple #[.agg #[.bool s9, .slice p9 k9 c9, .slice q9 l9 d9, .bool sz9, .slice pz9 kz9 cz9, .slice qz9 lz9 dz9, .bool x9, .bool y9], .int .i64 0]) ∧ Hid (GRep w' (.agg #[.bool s9, .slice p9 k9 c9, .slice q9 l9 d9, .bool sz9, .slice pz9 kz9 cz9, .slice qz9 lz9 dz9, .bool x9, .bool y9]) (japi r)) ∧ Below W.heap.size W w') (h7 : ∀ W, Below w.heap.size w W → Calls Tryz.prog 42 #[.agg #[.bool s1, .slice p1 k1 c1, .slice q1 l1 d1, .bool sz1, .slice pz1 kz1 cz1, .slice qz1 lz1 dz1, .bool x1, .bool y1], .agg #[.bool s2, .slice p2 k2 c2, .slice q2 l2 d2, .bool sz2, .slice pz2 kz2 cz2, .slice qz2 lz2 dz2, .bool x2, .bool y2], .int .i64 (k : Int)] W fun e w' => ∃ s9 p9 k9 c9 q9 l9 d9 sz9 pz9 kz9 cz9 qz9 lz9 dz9 x9 y9, e = .returned (.tuple #[.agg #[.bool s9, .slice p9 k9 c9, .slice q9 l9 d9, .bool sz9, .slice pz9 kz9 cz9, .slice qz9 lz9 dz9, .bool x9, .bool y9], .int .i64 s]) ∧ Hid (GRep w' (.agg #[.bool s9, .slice p9 k9 c9, .slice q9 l9 d9, .bool sz9, .slice pz9 kz9 cz9, .slice qz9 lz9 dz9, .bool x9, .bool y9]) D) ∧ Below W.heap.size W w') :
  Calls Tryz.prog 9 #[.agg #[.bool s1, .slice p1 k1 c1, .slice q1 l1 d1, .bool sz1, .slice pz1 kz1 cz1, .slice qz1 lz1 dz1, .bool x1, .bool y1], .agg #[.bool s2, .slice p2 k2 c2, .slice q2 l2 d2, .bool sz2, .slice pz2 kz2 cz2, .slice qz2 lz2 dz2, .bool x2, .bool y2], .int .u8 (p : Int)] w fun e w' => e = .returned (.bool true) ∧ Below w.heap.size w w' := by
 have H1 := hid h1
 have H2 := hid h2
 have H3 := hid h3
 have HI := hid h4
 have HN := hid h5
 have HO := hid h6
 have HD := hid h7
 have GR := hid gR
 have GQ := hid gQ
 have ER := hid eR
 have I1 := hid i1
 have I2 := hid i2
 have I3 := hid i3
 have Ja := hid ja
 have Jb := hid jb
 clear h1 h2 h3 h4 h5 h6 h7 gR gQ eR i1 i2 i3 ja jb
 have GS := hid gS
 have ES := hid eS
 subst hs hD
 clear gS eS
 go_enter Tryz.func9, Tryz.ntmps9
 go_upto_region 1 with fail
 generalize hA : World.alloc _ _ = W0
 have HV := hid (pre2_o hA nd8 nd8)
 clear hA
 obtain ⟨m0, m1, m2, m3, m4, m5, m6, m7, _⟩ := HV.out.1.cells8
 go_wp2_with fail
 have HB := hid HV.out.2.2
 have Ba := hid HV.out.1
 have Bb := hid HV.out.2.1
 have Ja_ := hid (Ja.out.below HB.out)
 have Jb_ := hid (Jb.out.below HB.out)
 clear HV
 refine (H1.out _ HB.out).mono ?_
 rintro e w1 ⟨s11, p11, k11, c11, q11, l11, d11, sz11, pz11, kz11, cz11, qz11, lz11, dz11, x11, y11, rfl, hG, hB⟩
 clear m0 m1 m2 m3 m4 m5 m6 m7
 have zw1_a := (Ba.out.below hB).lt
 have zw1_b := (Bb.out.below hB).lt
 go_upto_region 3 with fail
 have HX := hid (pre1 w1 [.bool s11, .slice p11 k11 c11, .slice q11 l11 d11, .bool sz11, .slice pz11 kz11 cz11, .slice qz11 lz11 dz11, .bool x11, .bool y11] 26 nd8)
 generalize w1.alloc (.cells #[.bool s11, .slice p11 k11 c11, .slice q11 l11 d11, .bool sz11, .slice pz11 kz11 cz11, .slice qz11 lz11 dz11, .bool x11, .bool y11] 26) = W11 at *
 have hC := hB.trans (HX.out.2.mono hB.size)
 replace Ba := hid (Ba.out.below hC)
 replace Ja_ := hid (Ja_.out.below hC)
 replace Bb := hid (Bb.out.below hC)
 replace Jb_ := hid (Jb_.out.below hC)
 replace HB := hid (HB.out.trans ((hC).mono HB.out.size))
 have Bc := hid HX.out.1
 have Gc_ := hid (GRep.below hG.out HX.out.2)
 have Jc_ := hid (JArg.res s11 p11 k11 c11 q11 l11 d11 sz11 pz11 kz11 cz11 qz11 lz11 dz11 x11 y11 GR.out Gc_.out)
 clear hG hB hC HX
 obtain ⟨m0, m1, m2, m3, m4, m5, m6, m7, _⟩ := Bb.out.cells8
 go_wp2_with fail
 refine (H2.out _ HB.out).mono ?_
 rintro e w2 ⟨s12, p12, k12, c12, q12, l12, d12, sz12, pz12, kz12, cz12, qz12, lz12, dz12, x12, y12, rfl, hG, hB⟩
 clear m0 m1 m2 m3 m4 m5 m6 m7
 have zw2_a := (Ba.out.below hB).lt
 have zw2_b := (Bb.out.below hB).lt
 have zw2_c := (Bc.out.below hB).lt
 go_upto_region 4 with fail
 have HX := hid (pre1 w2 [.bool s12, .slice p12 k12 c12, .slice q12 l12 d12, .bool sz12, .slice pz12 kz12 cz12, .slice qz12 lz12 dz12, .bool x12, .bool y12] 26 nd8)
 generalize w2.alloc (.cells #[.bool s12, .slice p12 k12 c12, .slice q12 l12 d12, .bool sz12, .slice pz12 kz12 cz12, .slice qz12 lz12 dz12, .bool x12, .bool y12] 26) = W12 at *
 have hC := hB.trans (HX.out.2.mono hB.size)
 replace Ba := hid (Ba.out.below hC)
 replace Ja_ := hid (Ja_.out.below hC)
 replace Bb := hid (Bb.out.below hC)
 replace Jb_ := hid (Jb_.out.below hC)
 replace Bc := hid (Bc.out.below hC)
 replace Jc_ := hid (Jc_.out.below hC)
 replace Gc_ := hid (Gc_.out.below hC)
 replace HB := hid (HB.out.trans ((hC).mono HB.out.size))
 have Bd := hid HX.out.1
 have Gd_ := hid (GRep.below hG.out HX.out.2)
 have Jd_ := hid (JArg.res s12 p12 k12 c12 q12 l12 d12 sz12 pz12 kz12 cz12 qz12 lz12 dz12 x12 y12 GQ.out Gd_.out)
 clear hG hB hC HX
 obtain ⟨m0, m1, m2, m3, m4, m5, m6, m7, _⟩ := Bc.out.cells8
 go_wp2_with fail
 refine (HO.out _ HB.out s11 p11 k11 c11 q11 l11 d11 sz11 pz11 kz11 cz11 qz11 lz11 dz11 x11 y11 R ER.out Jc_.out).mono ?_
 rintro e w3 ⟨s13, p13, k13, c13, q13, l13, d13, sz13, pz13, kz13, cz13, qz13, lz13, dz13, x13, y13, rfl, hG, hB⟩
 clear m0 m1 m2 m3 m4 m5 m6 m7
 have zw3_a := (Ba.out.below hB).lt
 have zw3_b := (Bb.out.below hB).lt
 have zw3_c := (Bc.out.below hB).lt
 have zw3_d := (Bd.out.below hB).lt
 go_upto_region 7 with fail
 have HX := hid (pre1 w3 [.bool s13, .slice p13 k13 c13, .slice q13 l13 d13, .bool sz13, .slice pz13 kz13 cz13, .slice qz13 lz13 dz13, .bool x13, .bool y13] 26 nd8)
 generalize w3.alloc (.cells #[.bool s13, .slice p13 k13 c13, .slice q13 l13 d13, .bool sz13, .slice pz13 kz13 cz13, .slice qz13 lz13 dz13, .bool x13, .bool y13] 26) = W13 at *
 have hC := hB.trans (HX.out.2.mono hB.size)
 replace Ba := hid (Ba.out.below hC)
 replace Ja_ := hid (Ja_.out.below hC)
 replace Bb := hid (Bb.out.below hC)
 replace Jb_ := hid (Jb_.out.below hC)
 replace Bc := hid (Bc.out.below hC)
 replace Jc_ := hid (Jc_.out.below hC)
 replace Gc_ := hid (Gc_.out.below hC)
 replace Bd := hid (Bd.out.below hC)
 replace Jd_ := hid (Jd_.out.below hC)
 replace Gd_ := hid (Gd_.out.below hC)
 replace HB := hid (HB.out.trans ((hC).mono HB.out.size))
 have Bg := hid HX.out.1
 have Gg_ := hid (GRep.below hG.out HX.out.2)
 have Jg_ := hid (JArg.res s13 p13 k13 c13 q13 l13 d13 sz13 pz13 kz13 cz13 qz13 lz13 dz13 x13 y13 GR.out Gg_.out)
 clear hG hB hC HX
 obtain ⟨m0, m1, m2, m3, m4, m5, m6, m7, _⟩ := Bg.out.cells8
 obtain ⟨n0, n1, n2, n3, n4, n5, n6, n7, _⟩ := Bc.out.cells8
 go_wp2_with fail
 refine (HI.out _ s13 p13 k13 c13 q13 l13 d13 sz13 pz13 kz13 cz13 qz13 lz13 dz13 x13 y13 s11 p11 k11 c11 q11 l11 d11 sz11 pz11 kz11 cz11 qz11 lz11 dz11 x11 y11 R GR.out Gg_.out Gc_.out).mono ?_
 rintro e w4 ⟨rfl, hB⟩
 clear m0 m1 m2 m3 m4 m5 m6 m7 n0 n1 n2 n3 n4 n5 n6 n7
 replace Ba := hid (Ba.out.below hB)
 replace Ja_ := hid (Ja_.out.below hB)
 replace Bb := hid (Bb.out.below hB)
 replace Jb_ := hid (Jb_.out.below hB)
 replace Bc := hid (Bc.out.below hB)
 replace Jc_ := hid (Jc_.out.below hB)
 replace Gc_ := hid (Gc_.out.below hB)
 replace Bd := hid (Bd.out.below hB)
 replace Jd_ := hid (Jd_.out.below hB)
 replace Gd_ := hid (Gd_.out.below hB)
 replace Bg := hid (Bg.out.below hB)
 replace Jg_ := hid (Jg_.out.below hB)
 replace Gg_ := hid (Gg_.out.below hB)
 replace HB := hid (HB.out.trans ((hB).mono HB.out.size))
 clear hB
 obtain ⟨m0, m1, m2, m3, m4, m5, m6, m7, _⟩ := Ba.out.cells8
 obtain ⟨n0, n1, n2, n3, n4, n5, n6, n7, _⟩ := Bc.out.cells8
 go_wp2_with fail
 refine (HN.out _ HB.out s1 p1 k1 c1 q1 l1 d1 sz1 pz1 kz1 cz1 qz1 lz1 dz1 x1 y1 s11 p11 k11 c11 q11 l11 d11 sz11 pz11 kz11 cz11 qz11 lz11 dz11 x11 y11 ra R true I1.out Ja_.out Jc_.out).mono ?_
 rintro e w5 ⟨rfl, hB⟩
 clear m0 m1 m2 m3 m4 m5 m6 m7 n0 n1 n2 n3 n4 n5 n6 n7
 replace Ba := hid (Ba.out.below hB)
 replace Ja_ := hid (Ja_.out.below hB)
 replace Bb := hid (Bb.out.below hB)
 replace Jb_ := hid (Jb_.out.below hB)
 replace Bc := hid (Bc.out.below hB)
 replace Jc_ := hid (Jc_.out.below hB)
 replace Gc_ := hid (Gc_.out.below hB)
 replace Bd := hid (Bd.out.below hB)
 replace Jd_ := hid (Jd_.out.below hB)
 replace Gd_ := hid (Gd_.out.below hB)
 replace Bg := hid (Bg.out.below hB)
 replace Jg_ := hid (Jg_.out.below hB)
 replace Gg_ := hid (Gg_.out.below hB)
 replace HB := hid (HB.out.trans ((hB).mono HB.out.size))
 clear hB
 obtain ⟨m0, m1, m2, m3, m4, m5, m6, m7, _⟩ := Ba.out.cells8
 obtain ⟨n0, n1, n2, n3, n4, n5, n6, n7, _⟩ := Bb.out.cells8
 go_wp2_with fail
 refine (HD.out _ HB.out).mono ?_
 rintro e w6 ⟨s14, p14, k14, c14, q14, l14, d14, sz14, pz14, kz14, cz14, qz14, lz14, dz14, x14, y14, rfl, hG, hB⟩
 clear m0 m1 m2 m3 m4 m5 m6 m7 n0 n1 n2 n3 n4 n5 n6 n7
 have zw6_a := (Ba.out.below hB).lt
 have zw6_b := (Bb.out.below hB).lt
 have zw6_c := (Bc.out.below hB).lt
 have zw6_d := (Bd.out.below hB).lt
 have zw6_g := (Bg.out.below hB).lt
 go_upto_region 10 with fail
 have HX := hid (pre1 w6 [.bool s14, .slice p14 k14 c14, .slice q14 l14 d14, .bool sz14, .slice pz14 kz14 cz14, .slice qz14 lz14 dz14, .bool x14, .bool y14] 26 nd8)
 generalize w6.alloc (.cells #[.bool s14, .slice p14 k14 c14, .slice q14 l14 d14, .bool sz14, .slice pz14 kz14 cz14, .slice qz14 lz14 dz14, .bool x14, .bool y14] 26) = W14 at *
 have hC := hB.trans (HX.out.2.mono hB.size)
 replace Ba := hid (Ba.out.below hC)
 replace Ja_ := hid (Ja_.out.below hC)
 replace Bb := hid (Bb.out.below hC)
 replace Jb_ := hid (Jb_.out.below hC)
 replace Bc := hid (Bc.out.below hC)
 replace Jc_ := hid (Jc_.out.below hC)
 replace Gc_ := hid (Gc_.out.below hC)
 replace Bd := hid (Bd.out.below hC)
 replace Jd_ := hid (Jd_.out.below hC)
 replace Gd_ := hid (Gd_.out.below hC)
 replace Bg := hid (Bg.out.below hC)
 replace Jg_ := hid (Jg_.out.below hC)
 replace Gg_ := hid (Gg_.out.below hC)
 replace HB := hid (HB.out.trans ((hC).mono HB.out.size))
 have Bs := hid HX.out.1
 have Gs_ := hid (GRep.below hG.out HX.out.2)
 have Js_ := hid (JArg.res s14 p14 k14 c14 q14 l14 d14 sz14 pz14 kz14 cz14 qz14 lz14 dz14 x14 y14 GS.out Gs_.out)
 clear hG hB hC HX
 go_upto_region 11 with fail
 obtain ⟨m0, m1, m2, m3, m4, m5, m6, m7, _⟩ := Bs.out.cells8
 go_wp2_with fail
 refine (HO.out _ HB.out s14 p14 k14 c14 q14 l14 d14 sz14 pz14 kz14 cz14 qz14 lz14 dz14 x14 y14 S ES.out Js_.out).mono ?_
 rintro e w7 ⟨s15, p15, k15, c15, q15, l15, d15, sz15, pz15, kz15, cz15, qz15, lz15, dz15, x15, y15, rfl, hG, hB⟩
 clear m0 m1 m2 m3 m4 m5 m6 m7
 replace Ba := hid (Ba.out.below hB)
 replace Ja_ := hid (Ja_.out.below hB)
 replace Bb := hid (Bb.out.below hB)
 replace Jb_ := hid (Jb_.out.below hB)
 replace Bc := hid (Bc.out.below hB)
 replace Jc_ := hid (Jc_.out.below hB)
 replace Gc_ := hid (Gc_.out.below hB)
 replace Bd := hid (Bd.out.below hB)
 replace Jd_ := hid (Jd_.out.below hB)
 replace Gd_ := hid (Gd_.out.below hB)
 replace Bg := hid (Bg.out.below hB)
 replace Jg_ := hid (Jg_.out.below hB)
 replace Gg_ := hid (Gg_.out.below hB)
 replace Bs := hid (Bs.out.below hB)
 replace Js_ := hid (Js_.out.below hB)
 replace Gs_ := hid (Gs_.out.below hB)
 replace HB := hid (HB.out.trans ((hB).mono HB.out.size))
 clear hB
 obtain ⟨m0, m1, m2, m3, m4, m5, m6, m7, n0, n1, n2, n3, n4, n5, n6, n7⟩ := Bg.out.cells8
 go_upto_region 12 with fail
 generalize hW : World.setCell _ _ _ = y
 have hG2 := hid (show GRep y (.agg #[.bool s15, .slice p15 k15 c15, .slice q15 l15 d15, .bool sz15, .slice pz15 kz15 cz15, .slice qz15 lz15 dz15, .bool x15, .bool y15]) (japi S) by rw [← hW]; exact GRep.stores (k := 0) (l := [.bool s15, .slice p15 k15 c15, .slice q15 l15 d15, .bool sz15, .slice pz15 kz15 cz15, .slice qz15 lz15 dz15, .bool x15, .bool y15]) hG.out Bg.out nd8)
 have hBg := hid (show Box y _ #[.bool s15, .slice p15 k15 c15, .slice q15 l15 d15, .bool sz15, .slice pz15 kz15 cz15, .slice qz15 lz15 dz15, .bool x15, .bool y15] by rw [← hW]; exact Bg.out.stores [.bool s15, .slice p15 k15 c15, .slice q15 l15 d15, .bool sz15, .slice pz15 kz15 cz15, .slice qz15 lz15 dz15, .bool x15, .bool y15] rfl nd8)
 replace Ba := hid (show Box y _ #[.bool s1, .slice p1 k1 c1, .slice q1 l1 d1, .bool sz1, .slice pz1 kz1 cz1, .slice qz1 lz1 dz1, .bool x1, .bool y1] by rw [← hW]; exact Box.stores_other (k := 0) (l := [.bool s15, .slice p15 k15 c15, .slice q15 l15 d15, .bool sz15, .slice pz15 kz15 cz15, .slice qz15 lz15 dz15, .bool x15, .bool y15]) Ba.out (by omega))
 replace Bb := hid (show Box y _ #[.bool s2, .slice p2 k2 c2, .slice q2 l2 d2, .bool sz2, .slice pz2 kz2 cz2, .slice qz2 lz2 dz2, .bool x2, .bool y2] by rw [← hW]; exact Box.stores_other (k := 0) (l := [.bool s15, .slice p15 k15 c15, .slice q15 l15 d15, .bool sz15, .slice pz15 kz15 cz15, .slice qz15 lz15 dz15, .bool x15, .bool y15]) Bb.out (by omega))
 replace Bc := hid (show Box y _ #[.bool s11, .slice p11 k11 c11, .slice q11 l11 d11, .bool sz11, .slice pz11 kz11 cz11, .slice qz11 lz11 dz11, .bool x11, .bool y11] by rw [← hW]; exact Box.stores_other (k := 0) (l := [.bool s15, .slice p15 k15 c15, .slice q15 l15 d15, .bool sz15, .slice pz15 kz15 cz15, .slice qz15 lz15 dz15, .bool x15, .bool y15]) Bc.out (by omega))
 replace Gc_ := hid (show GRep y (.agg #[.bool s11, .slice p11 k11 c11, .slice q11 l11 d11, .bool sz11, .slice pz11 kz11 cz11, .slice qz11 lz11 dz11, .bool x11, .bool y11]) _ by rw [← hW]; exact GRep.stores (k := 0) (l := [.bool s15, .slice p15 k15 c15, .slice q15 l15 d15, .bool sz15, .slice pz15 kz15 cz15, .slice qz15 lz15 dz15, .bool x15, .bool y15]) Gc_.out Bg.out nd8)
 replace Bd := hid (show Box y _ #[.bool s12, .slice p12 k12 c12, .slice q12 l12 d12, .bool sz12, .slice pz12 kz12 cz12, .slice qz12 lz12 dz12, .bool x12, .bool y12] by rw [← hW]; exact Box.stores_other (k := 0) (l := [.bool s15, .slice p15 k15 c15, .slice q15 l15 d15, .bool sz15, .slice pz15 kz15 cz15, .slice qz15 lz15 dz15, .bool x15, .bool y15]) Bd.out (by omega))
 replace Gd_ := hid (show GRep y (.agg #[.bool s12, .slice p12 k12 c12, .slice q12 l12 d12, .bool sz12, .slice pz12 kz12 cz12, .slice qz12 lz12 dz12, .bool x12, .bool y12]) _ by rw [← hW]; exact GRep.stores (k := 0) (l := [.bool s15, .slice p15 k15 c15, .slice q15 l15 d15, .bool sz15, .slice pz15 kz15 cz15, .slice qz15 lz15 dz15, .bool x15, .bool y15]) Gd_.out Bg.out nd8)
 replace Bs := hid (show Box y _ #[.bool s14, .slice p14 k14 c14, .slice q14 l14 d14, .bool sz14, .slice pz14 kz14 cz14, .slice qz14 lz14 dz14, .bool x14, .bool y14] by rw [← hW]; exact Box.stores_other (k := 0) (l := [.bool s15, .slice p15 k15 c15, .slice q15 l15 d15, .bool sz15, .slice pz15 kz15 cz15, .slice qz15 lz15 dz15, .bool x15, .bool y15]) Bs.out (by omega))
 replace Gs_ := hid (show GRep y (.agg #[.bool s14, .slice p14 k14 c14, .slice q14 l14 d14, .bool sz14, .slice pz14 kz14 cz14, .slice qz14 lz14 dz14, .bool x14, .bool y14]) _ by rw [← hW]; exact GRep.stores (k := 0) (l := [.bool s15, .slice p15 k15 c15, .slice q15 l15 d15, .bool sz15, .slice pz15 kz15 cz15, .slice qz15 lz15 dz15, .bool x15, .bool y15]) Gs_.out Bg.out nd8)
 replace HB := hid (show Below w.heap.size w y by rw [← hW]; exact Below.stores (k := 0) (l := [.bool s15, .slice p15 k15 c15, .slice q15 l15 d15, .bool sz15, .slice pz15 kz15 cz15, .slice qz15 lz15 dz15, .bool x15, .bool y15]) HB.out (by omega))
 clear hW hG Bg Jg_ Gg_
 clear m0 m1 m2 m3 m4 m5 m6 m7 n0 n1 n2 n3 n4 n5 n6 n7
 replace Jc_ := hid (JArg.res s11 p11 k11 c11 q11 l11 d11 sz11 pz11 kz11 cz11 qz11 lz11 dz11 x11 y11 GR.out Gc_.out)
 replace Jd_ := hid (JArg.res s12 p12 k12 c12 q12 l12 d12 sz12 pz12 kz12 cz12 qz12 lz12 dz12 x12 y12 GQ.out Gd_.out)
 replace Js_ := hid (JArg.res s14 p14 k14 c14 q14 l14 d14 sz14 pz14 kz14 cz14 qz14 lz14 dz14 x14 y14 GS.out Gs_.out)
 replace Ja_ := hid (Ja.out.below HB.out)
 replace Jb_ := hid (Jb.out.below HB.out)
 obtain ⟨m0, m1, m2, m3, m4, m5, m6, m7, _⟩ := hBg.out.cells8
 obtain ⟨n0, n1, n2, n3, n4, n5, n6, n7, _⟩ := Bs.out.cells8
 go_wp2_with fail
 refine (HI.out _ s15 p15 k15 c15 q15 l15 d15 sz15 pz15 kz15 cz15 qz15 lz15 dz15 x15 y15 s14 p14 k14 c14 q14 l14 d14 sz14 pz14 kz14 cz14 qz14 lz14 dz14 x14 y14 S GS.out hG2.out Gs_.out).mono ?_
 rintro e w8 ⟨rfl, hB⟩
 clear m0 m1 m2 m3 m4 m5 m6 m7 n0 n1 n2 n3 n4 n5 n6 n7
 replace Ba := hid (Ba.out.below hB)
 replace Ja_ := hid (Ja_.out.below hB)
 replace Bb := hid (Bb.out.below hB)
 replace Jb_ := hid (Jb_.out.below hB)
 replace Bc := hid (Bc.out.below hB)
 replace Jc_ := hid (Jc_.out.below hB)
 replace Gc_ := hid (Gc_.out.below hB)
 replace Bd := hid (Bd.out.below hB)
 replace Jd_ := hid (Jd_.out.below hB)
 replace Gd_ := hid (Gd_.out.below hB)
 replace Bs := hid (Bs.out.below hB)
 replace Js_ := hid (Js_.out.below hB)
 replace Gs_ := hid (Gs_.out.below hB)
 replace HB := hid (HB.out.trans ((hB).mono HB.out.size))
 clear hB
 clear hBg hG2
 go_upto_region 14 with fail
 obtain ⟨m0, m1, m2, m3, m4, m5, m6, m7, _⟩ := Ba.out.cells8
 obtain ⟨n0, n1, n2, n3, n4, n5, n6, n7, _⟩ := Bd.out.cells8
 go_wp2_with fail
 refine (HN.out _ HB.out s1 p1 k1 c1 q1 l1 d1 sz1 pz1 kz1 cz1 qz1 lz1 dz1 x1 y1 s12 p12 k12 c12 q12 l12 d12 sz12 pz12 kz12 cz12 qz12 lz12 dz12 x12 y12 ra Q b1 I2.out Ja_.out Jd_.out).mono ?_
 rintro e w30 ⟨rfl, hB⟩
 clear m0 m1 m2 m3 m4 m5 m6 m7 n0 n1 n2 n3 n4 n5 n6 n7
 replace Ba := hid (Ba.out.below hB)
 replace Ja_ := hid (Ja_.out.below hB)
 replace Bb := hid (Bb.out.below hB)
 replace Jb_ := hid (Jb_.out.below hB)
 replace Bc := hid (Bc.out.below hB)
 replace Jc_ := hid (Jc_.out.below hB)
 replace Gc_ := hid (Gc_.out.below hB)
 replace Bd := hid (Bd.out.below hB)
 replace Jd_ := hid (Jd_.out.below hB)
 replace Gd_ := hid (Gd_.out.below hB)
 replace Bs := hid (Bs.out.below hB)
 replace Js_ := hid (Js_.out.below hB)
 replace Gs_ := hid (Gs_.out.below hB)
 replace HB := hid (HB.out.trans ((hB).mono HB.out.size))
 clear hB
 have I4 : b1 = false ∨ (b1 = true ∧ Hid (jwithin R Q = true)) := by
  cases hb : b1
  ·exact .inl rfl
  ·exact .inr ⟨rfl, hid (I3.out hb)⟩
 clear I3
 rcases I4 with rfl | ⟨rfl, I4⟩
 ·go_wp2_with fail
  refine (H3.out _ HB.out).mono ?_
  rintro e w31 ⟨rfl, hB⟩
  have HZ := hid (HB.out.trans (hB.mono HB.out.size))
  go_wp2_with fail
  go_ret
  exact ⟨rfl, HZ.out⟩
 ·obtain ⟨m0, m1, m2, m3, m4, m5, m6, m7, _⟩ := Bc.out.cells8
  obtain ⟨n0, n1, n2, n3, n4, n5, n6, n7, _⟩ := Bd.out.cells8
  go_wp2_with fail
  refine (HN.out _ HB.out s11 p11 k11 c11 q11 l11 d11 sz11 pz11 kz11 cz11 qz11 lz11 dz11 x11 y11 s12 p12 k12 c12 q12 l12 d12 sz12 pz12 kz12 cz12 qz12 lz12 dz12 x12 y12 R Q true I4.out Jc_.out Jd_.out).mono ?_
  rintro e w31 ⟨rfl, hB⟩
  clear m0 m1 m2 m3 m4 m5 m6 m7 n0 n1 n2 n3 n4 n5 n6 n7
  replace HB := hid (HB.out.trans (hB.mono HB.out.size))
  clear hB
  go_wp2_with fail
  refine (H3.out _ HB.out).mono ?_
  rintro e w32 ⟨rfl, hB⟩
  have HZ := hid (HB.out.trans (hB.mono HB.out.size))
  go_wp2_with fail
  go_ret
  exact ⟨rfl, HZ.out⟩
theorem IntervalLeast_no (s1 : Bool) (p1 : Option Addr) (k1 c1 : Nat) (q1 : Option Addr) (l1 d1 : Nat) (sz1 : Bool) (pz1 : Option Addr) (kz1 cz1 : Nat) (qz1 : Option Addr) (lz1 dz1 : Nat) (x1 : Bool) (y1 : Bool) (s2 : Bool) (p2 : Option Addr) (k2 c2 : Nat) (q2 : Option Addr) (l2 d2 : Nat) (sz2 : Bool) (pz2 : Option Addr) (kz2 cz2 : Nat) (qz2 : Option Addr) (lz2 dz2 : Nat) (x2 : Bool) (y2 : Bool) (p k : Nat) (ra rb R Q : (Bool × Nat × Nat) × (Bool × Nat × Nat) × Bool × Bool × Bool) (b1 : Bool) (s : Int) (D : (Bool × Nat × Nat) × (Bool × Nat × Nat) × Bool × Bool) (w : World) (hk1 : (p : Int) % 129 = (k : Int)) (hk2 : Int.tmod (p : Int) 129 = (k : Int)) (ja : JArg w (.agg #[.bool s1, .slice p1 k1 c1, .slice q1 l1 d1, .bool sz1, .slice pz1 kz1 cz1, .slice qz1 lz1 dz1, .bool x1, .bool y1]) ra) (jb : JArg w (.agg #[.bool s2, .slice p2 k2 c2, .slice q2 l2 d2, .bool sz2, .slice pz2 kz2 cz2, .slice qz2 lz2 dz2, .bool x2, .bool y2]) rb) (gR : JGood R) (gQ : JGood Q) (eR : jround R k = R)
  (i1 : jwithin ra R = true) (i2 : jwithin ra Q = b1) (i3 : b1 = true → jwithin R Q = true) (hs : s = 1)
  (h1 : ∀ W, Below w.heap.size w W → Calls Tryz.prog 41 #[.agg #[.bool s1, .slice p1 k1 c1, .slice q1 l1 d1, .bool sz1, .slice pz1 kz1 cz1, .slice qz1 lz1 dz1, .bool x1, .bool y1], .int .i64 (k : Int)] W fun e w' => ∃ s9 p9 k9 c9 q9 l9 d9 sz9 pz9 kz9 cz9 qz9 lz9 dz9 x9 y9, e = .returned (.tuple #[.agg #[.bool s9, .slice p9 k9 c9, .slice q9 l9 d9, .bool sz9, .slice pz9 kz9 cz9, .slice qz9 lz9 dz9, .bool x9, .bool y9], .int .i64 0]) ∧ Hid (GRep w' (.agg #[.bool s9, .slice p9 k9 c9, .slice q9 l9 d9, .bool sz9, .slice pz9 kz9 cz9, .slice qz9 lz9 dz9, .bool x9, .bool y9]) (japi R)) ∧ Below W.heap.size W w') (h2 : ∀ W, Below w.heap.size w W → Calls Tryz.prog 41 #[.agg #[.bool s2, .slice p2 k2 c2, .slice q2 l2 d2, .bool sz2, .slice pz2 kz2 cz2, .slice qz2 lz2 dz2, .bool x2, .bool y2], .int .i64 (k : Int)] W fun e w' => ∃ s9 p9 k9 c9 q9 l9 d9 sz9 pz9 kz9 cz9 qz9 lz9 dz9 x9 y9, e = .returned (.tuple #[.agg #[.bool s9, .slice p9 k9 c9, .slice q9 l9 d9, .bool sz9, .slice pz9 kz9 cz9, .slice qz9 lz9 dz9, .bool x9, .bool y9], .int .i64 0]) ∧ Hid (GRep w' (.agg #[.bool s9, .slice p9 k9 c9, .slice q9 l9 d9, .bool sz9, .slice pz9 kz9 cz9, .slice qz9 lz9 dz9, .bool x9, .bool y9]) (japi Q)) ∧ Below W.heap.size W w') (h3 : ∀ W, Below w.heap.size w W → Calls Tryz.prog 20 #[] W fun e w' => e = .returned (.bool true) ∧ Below W.heap.size W w') (h4 : ∀ W (s5 : Bool) (p5 : Option Addr) (k5 c5 : Nat) (q5 : Option Addr) (l5 d5 : Nat) (sz5 : Bool) (pz5 : Option Addr) (kz5 cz5 : Nat) (qz5 : Option Addr) (lz5 dz5 : Nat) (x5 : Bool) (y5 : Bool) (s6 : Bool) (p6 : Option Addr) (k6 c6 : Nat) (q6 : Option Addr) (l6 d6 : Nat) (sz6 : Bool) (pz6 : Option Addr) (kz6 cz6 : Nat) (qz6 : Option Addr) (lz6 dz6 : Nat) (x6 : Bool) (y6 : Bool) (r : (Bool × Nat × Nat) × (Bool × Nat × Nat) × Bool × Bool × Bool), JGood r → GRep W (.agg #[.bool s5, .slice p5 k5 c5, .slice q5 l5 d5, .bool sz5, .slice pz5 kz5 cz5, .slice qz5 lz5 dz5, .bool x5, .bool y5]) (japi r) → GRep W (.agg #[.bool s6, .slice p6 k6 c6, .slice q6 l6 d6, .bool sz6, .slice pz6 kz6 cz6, .slice qz6 lz6 dz6, .bool x6, .bool y6]) (japi r) → Calls Tryz.prog 18 #[.agg #[.bool s5, .slice p5 k5 c5, .slice q5 l5 d5, .bool sz5, .slice pz5 kz5 cz5, .slice qz5 lz5 dz5, .bool x5, .bool y5], .int .i64 0, .agg #[.bool s6, .slice p6 k6 c6, .slice q6 l6 d6, .bool sz6, .slice pz6 kz6 cz6, .slice qz6 lz6 dz6, .bool x6, .bool y6], .int .i64 0] W fun e w' => e = .returned (.bool true) ∧ Below W.heap.size W w') (h5 : ∀ W, Below w.heap.size w W → ∀ (s5 : Bool) (p5 : Option Addr) (k5 c5 : Nat) (q5 : Option Addr) (l5 d5 : Nat) (sz5 : Bool) (pz5 : Option Addr) (kz5 cz5 : Nat) (qz5 : Option Addr) (lz5 dz5 : Nat) (x5 : Bool) (y5 : Bool) (s6 : Bool) (p6 : Option Addr) (k6 c6 : Nat) (q6 : Option Addr) (l6 d6 : Nat) (sz6 : Bool) (pz6 : Option Addr) (kz6 cz6 : Nat) (qz6 : Option Addr) (lz6 dz6 : Nat) (x6 : Bool) (y6 : Bool) (r t : (Bool × Nat × Nat) × (Bool × Nat × Nat) × Bool × Bool × Bool) (b : Bool), jwithin r t = b → JArg W (.agg #[.bool s5, .slice p5 k5 c5, .slice q5 l5 d5, .bool sz5, .slice pz5 kz5 cz5, .slice qz5 lz5 dz5, .bool x5, .bool y5]) r → JArg W (.agg #[.bool s6, .slice p6 k6 c6, .slice q6 l6 d6, .bool sz6, .slice pz6 kz6 cz6, .slice qz6 lz6 dz6, .bool x6, .bool y6]) t → Calls Tryz.prog 37 #[.agg #[.bool s5, .slice p5 k5 c5, .slice q5 l5 d5, .bool sz5, .slice pz5 kz5 cz5, .slice qz5 lz5 dz5, .bool x5, .bool y5], .agg #[.bool s6, .slice p6 k6 c6, .slice q6 l6 d6, .bool sz6, .slice pz6 kz6 cz6, .slice qz6 lz6 dz6, .bool x6, .bool y6]] W fun e w' => e = .returned (.bool b) ∧ Below W.heap.size W w') (h6 : ∀ W, Below w.heap.size w W → ∀ (s5 : Bool) (p5 : Option Addr) (k5 c5 : Nat) (q5 : Option Addr) (l5 d5 : Nat) (sz5 : Bool) (pz5 : Option Addr) (kz5 cz5 : Nat) (qz5 : Option Addr) (lz5 dz5 : Nat) (x5 : Bool) (y5 : Bool) (r : (Bool × Nat × Nat) × (Bool × Nat × Nat) × Bool × Bool × Bool), jround r k = r → JArg W (.agg #[.bool s5, .slice p5 k5 c5, .slice q5 l5 d5, .bool sz5, .slice pz5 kz5 cz5, .slice qz5 lz5 dz5, .bool x5, .bool y5]) r → Calls Tryz.prog 41 #[.agg #[.bool s5, .slice p5 k5 c5, .slice q5 l5 d5, .bool sz5, .slice pz5 kz5 cz5, .slice qz5 lz5 dz5, .bool x5, .bool y5], .int .i64 (k : Int)] W fun e w' => ∃ s9 p9 k9 c9 q9 l9 d9 sz9 pz9 kz9 cz9 qz9 lz9 dz9 x9 y9, e = .returned (.tuple #[.agg #[.bool s9, .slice p9 k9 c9, .slice q9 l9 d9, .bool sz9, .slice pz9 kz9 cz9, .slice qz9 lz9 dz9, .bool x9, .bool y9], .int .i64 0]) ∧ Hid (GRep w' (.agg #[.bool s9, .slice p9 k9 c9, .slice q9 l9 d9, .bool sz9, .slice pz9 kz9 cz9, .slice qz9 lz9 dz9, .bool x9, .bool y9]) (japi r)) ∧ Below W.heap.size W w') (h7 : ∀ W, Below w.heap.size w W → Calls Tryz.prog 42 #[.agg #[.bool s1, .slice p1 k1 c1, .slice q1 l1 d1, .bool sz1, .slice pz1 kz1 cz1, .slice qz1 lz1 dz1, .bool x1, .bool y1], .agg #[.bool s2, .slice p2 k2 c2, .slice q2 l2 d2, .bool sz2, .slice pz2 kz2 cz2, .slice qz2 lz2 dz2, .bool x2, .bool y2], .int .i64 (k : Int)] W fun e w' => ∃ s9 p9 k9 c9 q9 l9 d9 sz9 pz9 kz9 cz9 qz9 lz9 dz9 x9 y9, e = .returned (.tuple #[.agg #[.bool s9, .slice p9 k9 c9, .slice q9 l9 d9, .bool sz9, .slice pz9 kz9 cz9, .slice qz9 lz9 dz9, .bool x9, .bool y9], .int .i64 s]) ∧ Hid (GRep w' (.agg #[.bool s9, .slice p9 k9 c9, .slice q9 l9 d9, .bool sz9, .slice pz9 kz9 cz9, .slice qz9 lz9 dz9, .bool x9, .bool y9]) D) ∧ Below W.heap.size W w') :
  Calls Tryz.prog 9 #[.agg #[.bool s1, .slice p1 k1 c1, .slice q1 l1 d1, .bool sz1, .slice pz1 kz1 cz1, .slice qz1 lz1 dz1, .bool x1, .bool y1], .agg #[.bool s2, .slice p2 k2 c2, .slice q2 l2 d2, .bool sz2, .slice pz2 kz2 cz2, .slice qz2 lz2 dz2, .bool x2, .bool y2], .int .u8 (p : Int)] w fun e w' => e = .returned (.bool true) ∧ Below w.heap.size w w' := by
 have H1 := hid h1
 have H2 := hid h2
 have H3 := hid h3
 have HI := hid h4
 have HN := hid h5
 have HO := hid h6
 have HD := hid h7
 have GR := hid gR
 have GQ := hid gQ
 have ER := hid eR
 have I1 := hid i1
 have I2 := hid i2
 have I3 := hid i3
 have Ja := hid ja
 have Jb := hid jb
 clear h1 h2 h3 h4 h5 h6 h7 gR gQ eR i1 i2 i3 ja jb
 subst hs
 go_enter Tryz.func9, Tryz.ntmps9
 go_upto_region 1 with fail
 generalize hA : World.alloc _ _ = W0
 have HV := hid (pre2_o hA nd8 nd8)
 clear hA
 obtain ⟨m0, m1, m2, m3, m4, m5, m6, m7, _⟩ := HV.out.1.cells8
 go_wp2_with fail
 have HB := hid HV.out.2.2
 have Ba := hid HV.out.1
 have Bb := hid HV.out.2.1
 have Ja_ := hid (Ja.out.below HB.out)
 have Jb_ := hid (Jb.out.below HB.out)
 clear HV
 refine (H1.out _ HB.out).mono ?_
 rintro e w1 ⟨s11, p11, k11, c11, q11, l11, d11, sz11, pz11, kz11, cz11, qz11, lz11, dz11, x11, y11, rfl, hG, hB⟩
 clear m0 m1 m2 m3 m4 m5 m6 m7
 have zw1_a := (Ba.out.below hB).lt
 have zw1_b := (Bb.out.below hB).lt
 go_upto_region 3 with fail
 have HX := hid (pre1 w1 [.bool s11, .slice p11 k11 c11, .slice q11 l11 d11, .bool sz11, .slice pz11 kz11 cz11, .slice qz11 lz11 dz11, .bool x11, .bool y11] 26 nd8)
 generalize w1.alloc (.cells #[.bool s11, .slice p11 k11 c11, .slice q11 l11 d11, .bool sz11, .slice pz11 kz11 cz11, .slice qz11 lz11 dz11, .bool x11, .bool y11] 26) = W11 at *
 have hC := hB.trans (HX.out.2.mono hB.size)
 replace Ba := hid (Ba.out.below hC)
 replace Ja_ := hid (Ja_.out.below hC)
 replace Bb := hid (Bb.out.below hC)
 replace Jb_ := hid (Jb_.out.below hC)
 replace HB := hid (HB.out.trans ((hC).mono HB.out.size))
 have Bc := hid HX.out.1
 have Gc_ := hid (GRep.below hG.out HX.out.2)
 have Jc_ := hid (JArg.res s11 p11 k11 c11 q11 l11 d11 sz11 pz11 kz11 cz11 qz11 lz11 dz11 x11 y11 GR.out Gc_.out)
 clear hG hB hC HX
 obtain ⟨m0, m1, m2, m3, m4, m5, m6, m7, _⟩ := Bb.out.cells8
 go_wp2_with fail
 refine (H2.out _ HB.out).mono ?_
 rintro e w2 ⟨s12, p12, k12, c12, q12, l12, d12, sz12, pz12, kz12, cz12, qz12, lz12, dz12, x12, y12, rfl, hG, hB⟩
 clear m0 m1 m2 m3 m4 m5 m6 m7
 have zw2_a := (Ba.out.below hB).lt
 have zw2_b := (Bb.out.below hB).lt
 have zw2_c := (Bc.out.below hB).lt
 go_upto_region 4 with fail
 have HX := hid (pre1 w2 [.bool s12, .slice p12 k12 c12, .slice q12 l12 d12, .bool sz12, .slice pz12 kz12 cz12, .slice qz12 lz12 dz12, .bool x12, .bool y12] 26 nd8)
 generalize w2.alloc (.cells #[.bool s12, .slice p12 k12 c12, .slice q12 l12 d12, .bool sz12, .slice pz12 kz12 cz12, .slice qz12 lz12 dz12, .bool x12, .bool y12] 26) = W12 at *
 have hC := hB.trans (HX.out.2.mono hB.size)
 replace Ba := hid (Ba.out.below hC)
 replace Ja_ := hid (Ja_.out.below hC)
 replace Bb := hid (Bb.out.below hC)
 replace Jb_ := hid (Jb_.out.below hC)
 replace Bc := hid (Bc.out.below hC)
 replace Jc_ := hid (Jc_.out.below hC)
 replace Gc_ := hid (Gc_.out.below hC)
 replace HB := hid (HB.out.trans ((hC).mono HB.out.size))
 have Bd := hid HX.out.1
 have Gd_ := hid (GRep.below hG.out HX.out.2)
 have Jd_ := hid (JArg.res s12 p12 k12 c12 q12 l12 d12 sz12 pz12 kz12 cz12 qz12 lz12 dz12 x12 y12 GQ.out Gd_.out)
 clear hG hB hC HX
 obtain ⟨m0, m1, m2, m3, m4, m5, m6, m7, _⟩ := Bc.out.cells8
 go_wp2_with fail
 refine (HO.out _ HB.out s11 p11 k11 c11 q11 l11 d11 sz11 pz11 kz11 cz11 qz11 lz11 dz11 x11 y11 R ER.out Jc_.out).mono ?_
 rintro e w3 ⟨s13, p13, k13, c13, q13, l13, d13, sz13, pz13, kz13, cz13, qz13, lz13, dz13, x13, y13, rfl, hG, hB⟩
 clear m0 m1 m2 m3 m4 m5 m6 m7
 have zw3_a := (Ba.out.below hB).lt
 have zw3_b := (Bb.out.below hB).lt
 have zw3_c := (Bc.out.below hB).lt
 have zw3_d := (Bd.out.below hB).lt
 go_upto_region 7 with fail
 have HX := hid (pre1 w3 [.bool s13, .slice p13 k13 c13, .slice q13 l13 d13, .bool sz13, .slice pz13 kz13 cz13, .slice qz13 lz13 dz13, .bool x13, .bool y13] 26 nd8)
 generalize w3.alloc (.cells #[.bool s13, .slice p13 k13 c13, .slice q13 l13 d13, .bool sz13, .slice pz13 kz13 cz13, .slice qz13 lz13 dz13, .bool x13, .bool y13] 26) = W13 at *
 have hC := hB.trans (HX.out.2.mono hB.size)
 replace Ba := hid (Ba.out.below hC)
 replace Ja_ := hid (Ja_.out.below hC)
 replace Bb := hid (Bb.out.below hC)
 replace Jb_ := hid (Jb_.out.below hC)
 replace Bc := hid (Bc.out.below hC)
 replace Jc_ := hid (Jc_.out.below hC)
 replace Gc_ := hid (Gc_.out.below hC)
 replace Bd := hid (Bd.out.below hC)
 replace Jd_ := hid (Jd_.out.below hC)
 replace Gd_ := hid (Gd_.out.below hC)
 replace HB := hid (HB.out.trans ((hC).mono HB.out.size))
 have Bg := hid HX.out.1
 have Gg_ := hid (GRep.below hG.out HX.out.2)
 have Jg_ := hid (JArg.res s13 p13 k13 c13 q13 l13 d13 sz13 pz13 kz13 cz13 qz13 lz13 dz13 x13 y13 GR.out Gg_.out)
 clear hG hB hC HX
 obtain ⟨m0, m1, m2, m3, m4, m5, m6, m7, _⟩ := Bg.out.cells8
 obtain ⟨n0, n1, n2, n3, n4, n5, n6, n7, _⟩ := Bc.out.cells8
 go_wp2_with fail
 refine (HI.out _ s13 p13 k13 c13 q13 l13 d13 sz13 pz13 kz13 cz13 qz13 lz13 dz13 x13 y13 s11 p11 k11 c11 q11 l11 d11 sz11 pz11 kz11 cz11 qz11 lz11 dz11 x11 y11 R GR.out Gg_.out Gc_.out).mono ?_
 rintro e w4 ⟨rfl, hB⟩
 clear m0 m1 m2 m3 m4 m5 m6 m7 n0 n1 n2 n3 n4 n5 n6 n7
 replace Ba := hid (Ba.out.below hB)
 replace Ja_ := hid (Ja_.out.below hB)
 replace Bb := hid (Bb.out.below hB)
 replace Jb_ := hid (Jb_.out.below hB)
 replace Bc := hid (Bc.out.below hB)
 replace Jc_ := hid (Jc_.out.below hB)
 replace Gc_ := hid (Gc_.out.below hB)
 replace Bd := hid (Bd.out.below hB)
 replace Jd_ := hid (Jd_.out.below hB)
 replace Gd_ := hid (Gd_.out.below hB)
 replace Bg := hid (Bg.out.below hB)
 replace Jg_ := hid (Jg_.out.below hB)
 replace Gg_ := hid (Gg_.out.below hB)
 replace HB := hid (HB.out.trans ((hB).mono HB.out.size))
 clear hB
 obtain ⟨m0, m1, m2, m3, m4, m5, m6, m7, _⟩ := Ba.out.cells8
 obtain ⟨n0, n1, n2, n3, n4, n5, n6, n7, _⟩ := Bc.out.cells8
 go_wp2_with fail
 refine (HN.out _ HB.out s1 p1 k1 c1 q1 l1 d1 sz1 pz1 kz1 cz1 qz1 lz1 dz1 x1 y1 s11 p11 k11 c11 q11 l11 d11 sz11 pz11 kz11 cz11 qz11 lz11 dz11 x11 y11 ra R true I1.out Ja_.out Jc_.out).mono ?_
 rintro e w5 ⟨rfl, hB⟩
 clear m0 m1 m2 m3 m4 m5 m6 m7 n0 n1 n2 n3 n4 n5 n6 n7
 replace Ba := hid (Ba.out.below hB)
 replace Ja_ := hid (Ja_.out.below hB)
 replace Bb := hid (Bb.out.below hB)
 replace Jb_ := hid (Jb_.out.below hB)
 replace Bc := hid (Bc.out.below hB)
 replace Jc_ := hid (Jc_.out.below hB)
 replace Gc_ := hid (Gc_.out.below hB)
 replace Bd := hid (Bd.out.below hB)
 replace Jd_ := hid (Jd_.out.below hB)
 replace Gd_ := hid (Gd_.out.below hB)
 replace Bg := hid (Bg.out.below hB)
 replace Jg_ := hid (Jg_.out.below hB)
 replace Gg_ := hid (Gg_.out.below hB)
 replace HB := hid (HB.out.trans ((hB).mono HB.out.size))
 clear hB
 obtain ⟨m0, m1, m2, m3, m4, m5, m6, m7, _⟩ := Ba.out.cells8
 obtain ⟨n0, n1, n2, n3, n4, n5, n6, n7, _⟩ := Bb.out.cells8
 go_wp2_with fail
 refine (HD.out _ HB.out).mono ?_
 rintro e w6 ⟨s14, p14, k14, c14, q14, l14, d14, sz14, pz14, kz14, cz14, qz14, lz14, dz14, x14, y14, rfl, hG, hB⟩
 clear m0 m1 m2 m3 m4 m5 m6 m7 n0 n1 n2 n3 n4 n5 n6 n7
 have zw6_a := (Ba.out.below hB).lt
 have zw6_b := (Bb.out.below hB).lt
 have zw6_c := (Bc.out.below hB).lt
 have zw6_d := (Bd.out.below hB).lt
 have zw6_g := (Bg.out.below hB).lt
 go_upto_region 10 with fail
 have HX := hid (pre1 w6 [.bool s14, .slice p14 k14 c14, .slice q14 l14 d14, .bool sz14, .slice pz14 kz14 cz14, .slice qz14 lz14 dz14, .bool x14, .bool y14] 26 nd8)
 generalize w6.alloc (.cells #[.bool s14, .slice p14 k14 c14, .slice q14 l14 d14, .bool sz14, .slice pz14 kz14 cz14, .slice qz14 lz14 dz14, .bool x14, .bool y14] 26) = W14 at *
 have hC := hB.trans (HX.out.2.mono hB.size)
 replace Ba := hid (Ba.out.below hC)
 replace Ja_ := hid (Ja_.out.below hC)
 replace Bb := hid (Bb.out.below hC)
 replace Jb_ := hid (Jb_.out.below hC)
 replace Bc := hid (Bc.out.below hC)
 replace Jc_ := hid (Jc_.out.below hC)
 replace Gc_ := hid (Gc_.out.below hC)
 replace Bd := hid (Bd.out.below hC)
 replace Jd_ := hid (Jd_.out.below hC)
 replace Gd_ := hid (Gd_.out.below hC)
 replace Bg := hid (Bg.out.below hC)
 replace Jg_ := hid (Jg_.out.below hC)
 replace Gg_ := hid (Gg_.out.below hC)
 replace HB := hid (HB.out.trans ((hC).mono HB.out.size))
 have Bs := hid HX.out.1
 have Gs_ := hid (GRep.below hG.out HX.out.2)
 clear hG hB hC HX
 clear Bs Gs_
 go_upto_region 14 with fail
 obtain ⟨m0, m1, m2, m3, m4, m5, m6, m7, _⟩ := Ba.out.cells8
 obtain ⟨n0, n1, n2, n3, n4, n5, n6, n7, _⟩ := Bd.out.cells8
 go_wp2_with fail
 refine (HN.out _ HB.out s1 p1 k1 c1 q1 l1 d1 sz1 pz1 kz1 cz1 qz1 lz1 dz1 x1 y1 s12 p12 k12 c12 q12 l12 d12 sz12 pz12 kz12 cz12 qz12 lz12 dz12 x12 y12 ra Q b1 I2.out Ja_.out Jd_.out).mono ?_
 rintro e w30 ⟨rfl, hB⟩
 clear m0 m1 m2 m3 m4 m5 m6 m7 n0 n1 n2 n3 n4 n5 n6 n7
 replace Ba := hid (Ba.out.below hB)
 replace Ja_ := hid (Ja_.out.below hB)
 replace Bb := hid (Bb.out.below hB)
 replace Jb_ := hid (Jb_.out.below hB)
 replace Bc := hid (Bc.out.below hB)
 replace Jc_ := hid (Jc_.out.below hB)
 replace Gc_ := hid (Gc_.out.below hB)
 replace Bd := hid (Bd.out.below hB)
 replace Jd_ := hid (Jd_.out.below hB)
 replace Gd_ := hid (Gd_.out.below hB)
 replace Bg := hid (Bg.out.below hB)
 replace Jg_ := hid (Jg_.out.below hB)
 replace Gg_ := hid (Gg_.out.below hB)
 replace HB := hid (HB.out.trans ((hB).mono HB.out.size))
 clear hB
 have I4 : b1 = false ∨ (b1 = true ∧ Hid (jwithin R Q = true)) := by
  cases hb : b1
  ·exact .inl rfl
  ·exact .inr ⟨rfl, hid (I3.out hb)⟩
 clear I3
 rcases I4 with rfl | ⟨rfl, I4⟩
 ·go_wp2_with fail
  refine (H3.out _ HB.out).mono ?_
  rintro e w31 ⟨rfl, hB⟩
  have HZ := hid (HB.out.trans (hB.mono HB.out.size))
  go_wp2_with fail
  go_ret
  exact ⟨rfl, HZ.out⟩
 ·obtain ⟨m0, m1, m2, m3, m4, m5, m6, m7, _⟩ := Bc.out.cells8
  obtain ⟨n0, n1, n2, n3, n4, n5, n6, n7, _⟩ := Bd.out.cells8
  go_wp2_with fail
  refine (HN.out _ HB.out s11 p11 k11 c11 q11 l11 d11 sz11 pz11 kz11 cz11 qz11 lz11 dz11 x11 y11 s12 p12 k12 c12 q12 l12 d12 sz12 pz12 kz12 cz12 qz12 lz12 dz12 x12 y12 R Q true I4.out Jc_.out Jd_.out).mono ?_
  rintro e w31 ⟨rfl, hB⟩
  clear m0 m1 m2 m3 m4 m5 m6 m7 n0 n1 n2 n3 n4 n5 n6 n7
  replace HB := hid (HB.out.trans (hB.mono HB.out.size))
  clear hB
  go_wp2_with fail
  refine (H3.out _ HB.out).mono ?_
  rintro e w32 ⟨rfl, hB⟩
  have HZ := hid (HB.out.trans (hB.mono HB.out.size))
  go_wp2_with fail
  go_ret
  exact ⟨rfl, HZ.out⟩
theorem IntervalLeast_iv (s1 : Bool) (p1 : Option Addr) (k1 c1 : Nat) (q1 : Option Addr) (l1 d1 : Nat) (sz1 : Bool) (pz1 : Option Addr) (kz1 cz1 : Nat) (qz1 : Option Addr) (lz1 dz1 : Nat) (x1 : Bool) (y1 : Bool) (s2 : Bool) (p2 : Option Addr) (k2 c2 : Nat) (q2 : Option Addr) (l2 d2 : Nat) (sz2 : Bool) (pz2 : Option Addr) (kz2 cz2 : Nat) (qz2 : Option Addr) (lz2 dz2 : Nat) (x2 : Bool) (y2 : Bool) (p : Nat) (a b a' b' : Bool × Nat × Nat) (w : World) (ha : NRep w (.agg #[.bool s1, .slice p1 k1 c1, .slice q1 l1 d1]) a) (hb : NRep w (.agg #[.bool sz1, .slice pz1 kz1 cz1, .slice qz1 lz1 dz1]) b) (ha' : NRep w (.agg #[.bool s2, .slice p2 k2 c2, .slice q2 l2 d2]) a') (hb' : NRep w (.agg #[.bool sz2, .slice pz2 kz2 cz2, .slice qz2 lz2 dz2]) b') (ht : TabOk w) :
  Calls Tryz.prog 9 #[.agg #[.bool s1, .slice p1 k1 c1, .slice q1 l1 d1, .bool sz1, .slice pz1 kz1 cz1, .slice qz1 lz1 dz1, .bool x1, .bool y1], .agg #[.bool s2, .slice p2 k2 c2, .slice q2 l2 d2, .bool sz2, .slice pz2 kz2 cz2, .slice qz2 lz2 dz2, .bool x2, .bool y2], .int .u8 (p : Int)] w fun e w' => e = .returned (.bool true) ∧ Below w.heap.size w w' := by
 obtain ⟨k, hk⟩ : ∃ k, k = p % 129 := ⟨_, rfl⟩
 have hk1 : (p : Int) % 129 = (k : Int) := by omega
 have hk2 : Int.tmod (p : Int) 129 = (k : Int) := by rw [Int.tmod_eq_emod_of_nonneg (by omega)]; exact hk1
 have k128 : k ≤ 128 := by omega
 have hA : ∀ W, Below w.heap.size w W → Calls Tryz.prog 20 #[] W fun e w' => e = .returned (.bool true) ∧ Below W.heap.size W w' := fun W hW => awake3_any W (ht.below hW)
 rcases round_cases a b x1 y1 k128 with e1 | ⟨s1', s2', e1, gR, v1⟩
 ·rcases round_cases a' b' x2 y2 k128 with f1 | ⟨_, _, f1, _, _⟩
  ·exact IntervalLeast_err s1 p1 k1 c1 q1 l1 d1 sz1 pz1 kz1 cz1 qz1 lz1 dz1 x1 y1 s2 p2 k2 c2 q2 l2 d2 sz2 pz2 kz2 cz2 qz2 lz2 dz2 x2 y2 p k 1 1 _ _ w hk1 hk2 (fun W hW => by have h := iRound_any s1 p1 k1 c1 q1 l1 d1 sz1 pz1 kz1 cz1 qz1 lz1 dz1 x1 y1 a b (k : Int) W (ha.below hW) (hb.below hW) (ht.below hW); rw [e1] at h; exact h) (fun W hW => by have h := iRound_any s2 p2 k2 c2 q2 l2 d2 sz2 pz2 kz2 cz2 qz2 lz2 dz2 x2 y2 a' b' (k : Int) W (ha'.below hW) (hb'.below hW) (ht.below hW); rw [f1] at h; exact h) hA (.inl rfl)
  ·exact IntervalLeast_err s1 p1 k1 c1 q1 l1 d1 sz1 pz1 kz1 cz1 qz1 lz1 dz1 x1 y1 s2 p2 k2 c2 q2 l2 d2 sz2 pz2 kz2 cz2 qz2 lz2 dz2 x2 y2 p k 1 0 _ _ w hk1 hk2 (fun W hW => by have h := iRound_any s1 p1 k1 c1 q1 l1 d1 sz1 pz1 kz1 cz1 qz1 lz1 dz1 x1 y1 a b (k : Int) W (ha.below hW) (hb.below hW) (ht.below hW); rw [e1] at h; exact h) (fun W hW => by have h := iRound_any s2 p2 k2 c2 q2 l2 d2 sz2 pz2 kz2 cz2 qz2 lz2 dz2 x2 y2 a' b' (k : Int) W (ha'.below hW) (hb'.below hW) (ht.below hW); rw [f1] at h; exact h) hA (.inl rfl)
 ·rcases round_cases a' b' x2 y2 k128 with f1 | ⟨t1', t2', f1, gQ, v2⟩
  ·exact IntervalLeast_err s1 p1 k1 c1 q1 l1 d1 sz1 pz1 kz1 cz1 qz1 lz1 dz1 x1 y1 s2 p2 k2 c2 q2 l2 d2 sz2 pz2 kz2 cz2 qz2 lz2 dz2 x2 y2 p k 0 1 _ _ w hk1 hk2 (fun W hW => by have h := iRound_any s1 p1 k1 c1 q1 l1 d1 sz1 pz1 kz1 cz1 qz1 lz1 dz1 x1 y1 a b (k : Int) W (ha.below hW) (hb.below hW) (ht.below hW); rw [e1] at h; exact h) (fun W hW => by have h := iRound_any s2 p2 k2 c2 q2 l2 d2 sz2 pz2 kz2 cz2 qz2 lz2 dz2 x2 y2 a' b' (k : Int) W (ha'.below hW) (hb'.below hW) (ht.below hW); rw [f1] at h; exact h) hA (.inr ⟨rfl, rfl⟩)
  ·have Ja : JArg w (.agg #[.bool s1, .slice p1 k1 c1, .slice q1 l1 d1, .bool sz1, .slice pz1 kz1 cz1, .slice qz1 lz1 dz1, .bool x1, .bool y1]) (jof (a, b, x1, y1)) := ⟨_, _, _, _, _, _, _, _, _, _, _, _, _, _, _, _, rfl, _, _, ha, hb, s1', s2', rfl⟩
   have Jb : JArg w (.agg #[.bool s2, .slice p2 k2 c2, .slice q2 l2 d2, .bool sz2, .slice pz2 kz2 cz2, .slice qz2 lz2 dz2, .bool x2, .bool y2]) (jof (a', b', x2, y2)) := ⟨_, _, _, _, _, _, _, _, _, _, _, _, _, _, _, _, rfl, _, _, ha', hb', t1', t2', rfl⟩
   have hcA : ∀ W, Below w.heap.size w W → Calls Tryz.prog 41 #[.agg #[.bool s1, .slice p1 k1 c1, .slice q1 l1 d1, .bool sz1, .slice pz1 kz1 cz1, .slice qz1 lz1 dz1, .bool x1, .bool y1], .int .i64 (k : Int)] W fun e w' => ∃ s9 p9 k9 c9 q9 l9 d9 sz9 pz9 kz9 cz9 qz9 lz9 dz9 x9 y9, e = .returned (.tuple #[.agg #[.bool s9, .slice p9 k9 c9, .slice q9 l9 d9, .bool sz9, .slice pz9 kz9 cz9, .slice qz9 lz9 dz9, .bool x9, .bool y9], .int .i64 0]) ∧ Hid (GRep w' (.agg #[.bool s9, .slice p9 k9 c9, .slice q9 l9 d9, .bool sz9, .slice pz9 kz9 cz9, .slice qz9 lz9 dz9, .bool x9, .bool y9]) (japi (jround (jof (a, b, x1, y1)) k))) ∧ Below W.heap.size W w' := fun W hW => iRound_J s1 p1 k1 c1 q1 l1 d1 sz1 pz1 kz1 cz1 qz1 lz1 dz1 x1 y1 a b k _ W (ha.below hW) (hb.below hW) e1 v1 (ht.below hW)
   have hcB : ∀ W, Below w.heap.size w W → Calls Tryz.prog 41 #[.agg #[.bool s2, .slice p2 k2 c2, .slice q2 l2 d2, .bool sz2, .slice pz2 kz2 cz2, .slice qz2 lz2 dz2, .bool x2, .bool y2], .int .i64 (k : Int)] W fun e w' => ∃ s9 p9 k9 c9 q9 l9 d9 sz9 pz9 kz9 cz9 qz9 lz9 dz9 x9 y9, e = .returned (.tuple #[.agg #[.bool s9, .slice p9 k9 c9, .slice q9 l9 d9, .bool sz9, .slice pz9 kz9 cz9, .slice qz9 lz9 dz9, .bool x9, .bool y9], .int .i64 0]) ∧ Hid (GRep w' (.agg #[.bool s9, .slice p9 k9 c9, .slice q9 l9 d9, .bool sz9, .slice pz9 kz9 cz9, .slice qz9 lz9 dz9, .bool x9, .bool y9]) (japi (jround (jof (a', b', x2, y2)) k))) ∧ Below W.heap.size W w' := fun W hW => iRound_J s2 p2 k2 c2 q2 l2 d2 sz2 pz2 kz2 cz2 qz2 lz2 dz2 x2 y2 a' b' k _ W (ha'.below hW) (hb'.below hW) f1 v2 (ht.below hW)
   rcases add_cases a b a' b' x1 y1 x2 y2 k128 s1' s2' t1' t2' with g1 | ⟨g1, gS, v3⟩
   ·exact IntervalLeast_no s1 p1 k1 c1 q1 l1 d1 sz1 pz1 kz1 cz1 qz1 lz1 dz1 x1 y1 s2 p2 k2 c2 q2 l2 d2 sz2 pz2 kz2 cz2 qz2 lz2 dz2 x2 y2 p k _ _ _ _ _ 1 _ w hk1 hk2 Ja Jb gR gQ (jround_twice Ja.good k) (jround_in Ja.good k) rfl (fun hw => jround_least Ja.good Jb.good k hw) rfl hcA hcB hA
     (fun W s5 p5 k5 c5 q5 l5 d5 sz5 pz5 kz5 cz5 qz5 lz5 dz5 x5 y5 s6 p6 k6 c6 q6 l6 d6 sz6 pz6 kz6 cz6 qz6 lz6 dz6 x6 y6 r g h h' => is3_ok s5 p5 k5 c5 q5 l5 d5 sz5 pz5 kz5 cz5 qz5 lz5 dz5 x5 y5 s6 p6 k6 c6 q6 l6 d6 sz6 pz6 kz6 cz6 qz6 lz6 dz6 x6 y6 r W g h h')
     (fun W hW s5 p5 k5 c5 q5 l5 d5 sz5 pz5 kz5 cz5 qz5 lz5 dz5 x5 y5 s6 p6 k6 c6 q6 l6 d6 sz6 pz6 kz6 cz6 qz6 lz6 dz6 x6 y6 r t b0 hb0 h h' => by rw [← hb0]; exact lawInside_J s5 p5 k5 c5 q5 l5 d5 sz5 pz5 kz5 cz5 qz5 lz5 dz5 x5 y5 s6 p6 k6 c6 q6 l6 d6 sz6 pz6 kz6 cz6 qz6 lz6 dz6 x6 y6 r t W h h' (ht.below hW))
     (fun W hW s5 p5 k5 c5 q5 l5 d5 sz5 pz5 kz5 cz5 qz5 lz5 dz5 x5 y5 r hr h => iRound_on s5 p5 k5 c5 q5 l5 d5 sz5 pz5 kz5 cz5 qz5 lz5 dz5 x5 y5 r k k128 W h hr (ht.below hW))
     (fun W hW => by have h := iAdd_any s1 p1 k1 c1 q1 l1 d1 sz1 pz1 kz1 cz1 qz1 lz1 dz1 x1 y1 s2 p2 k2 c2 q2 l2 d2 sz2 pz2 kz2 cz2 qz2 lz2 dz2 x2 y2 (k : Int) a b a' b' W (ha.below hW) (hb.below hW) (ha'.below hW) (hb'.below hW) (ht.below hW); rw [g1] at h; exact h)
   ·exact IntervalLeast_sum s1 p1 k1 c1 q1 l1 d1 sz1 pz1 kz1 cz1 qz1 lz1 dz1 x1 y1 s2 p2 k2 c2 q2 l2 d2 sz2 pz2 kz2 cz2 qz2 lz2 dz2 x2 y2 p k _ _ _ _ _ 0 _ _ gS (jround_twiceW (rop_plus.wide Ja.good Jb.good) k) w hk1 hk2 Ja Jb gR gQ (jround_twice Ja.good k) (jround_in Ja.good k) rfl (fun hw => jround_least Ja.good Jb.good k hw) rfl rfl hcA hcB hA
     (fun W s5 p5 k5 c5 q5 l5 d5 sz5 pz5 kz5 cz5 qz5 lz5 dz5 x5 y5 s6 p6 k6 c6 q6 l6 d6 sz6 pz6 kz6 cz6 qz6 lz6 dz6 x6 y6 r g h h' => is3_ok s5 p5 k5 c5 q5 l5 d5 sz5 pz5 kz5 cz5 qz5 lz5 dz5 x5 y5 s6 p6 k6 c6 q6 l6 d6 sz6 pz6 kz6 cz6 qz6 lz6 dz6 x6 y6 r W g h h')
     (fun W hW s5 p5 k5 c5 q5 l5 d5 sz5 pz5 kz5 cz5 qz5 lz5 dz5 x5 y5 s6 p6 k6 c6 q6 l6 d6 sz6 pz6 kz6 cz6 qz6 lz6 dz6 x6 y6 r t b0 hb0 h h' => by rw [← hb0]; exact lawInside_J s5 p5 k5 c5 q5 l5 d5 sz5 pz5 kz5 cz5 qz5 lz5 dz5 x5 y5 s6 p6 k6 c6 q6 l6 d6 sz6 pz6 kz6 cz6 qz6 lz6 dz6 x6 y6 r t W h h' (ht.below hW))
     (fun W hW s5 p5 k5 c5 q5 l5 d5 sz5 pz5 kz5 cz5 qz5 lz5 dz5 x5 y5 r hr h => iRound_on s5 p5 k5 c5 q5 l5 d5 sz5 pz5 kz5 cz5 qz5 lz5 dz5 x5 y5 r k k128 W h hr (ht.below hW))
     (fun W hW => by have h := iAdd_any s1 p1 k1 c1 q1 l1 d1 sz1 pz1 kz1 cz1 qz1 lz1 dz1 x1 y1 s2 p2 k2 c2 q2 l2 d2 sz2 pz2 kz2 cz2 qz2 lz2 dz2 x2 y2 (k : Int) a b a' b' W (ha.below hW) (hb.below hW) (ha'.below hW) (hb'.below hW) (ht.below hW); rw [g1, v3] at h; exact h)
theorem IntervalLeast_any (v u : Value) (i j : (Bool × Nat × Nat) × (Bool × Nat × Nat) × Bool × Bool) (n : Int) (w : World) (ha : IRep w v i) (hb : IRep w u j) (hlo : 0 ≤ n) (_hhi : n < 256) (ht : TabOk w) :
  Calls Tryz.prog 9 #[v, u, .int .u8 n] w fun e w' => e = .returned (.bool true) ∧ Below w.heap.size w w' := by
 obtain ⟨p, rfl⟩ := Int.eq_ofNat_of_zero_le hlo
 obtain ⟨s1, p1, k1, c1, q1, l1, d1, sz1, pz1, kz1, cz1, qz1, lz1, dz1, x1, y1, rfl, h1, h2, rfl, rfl⟩ := ha
 obtain ⟨s2, p2, k2, c2, q2, l2, d2, sz2, pz2, kz2, cz2, qz2, lz2, dz2, x2, y2, rfl, h3, h4, rfl, rfl⟩ := hb
 exact IntervalLeast_iv s1 p1 k1 c1 q1 l1 d1 sz1 pz1 kz1 cz1 qz1 lz1 dz1 _ _ s2 p2 k2 c2 q2 l2 d2 sz2 pz2 kz2 cz2 qz2 lz2 dz2 _ _ p i.1 i.2.1 j.1 j.2.1 w h1 h2 h3 h4 ht
end Go.Proofs.YtimjoejkjgklaaaGreatDoor
