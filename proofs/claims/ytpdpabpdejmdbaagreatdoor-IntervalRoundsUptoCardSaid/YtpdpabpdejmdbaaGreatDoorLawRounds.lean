/- The law IntervalRounds. -/
import Derived.Test.YtpdpabpdejmdbaaGreatDoorRndL
import Derived.Test.YtpdpabpdejmdbaaGreatDoorAwake
namespace Go.Proofs.YtpdpabpdejmdbaaGreatDoor
open Go.RowKit Dg

set_option maxHeartbeats 8000000 in
set_option maxRecDepth 100000 in
theorem IntervalRounds_iv (s1 : Bool) (p1 : Option Addr) (k1 c1 : Nat) (q1 : Option Addr) (l1 d1 : Nat) (sz1 : Bool) (pz1 : Option Addr) (kz1 cz1 : Nat) (qz1 : Option Addr) (lz1 dz1 : Nat) (x1 : Bool) (y1 : Bool) (p : Int) (a b : Bool × Nat × Nat) (w : World) (ha : NRep w (.agg #[.bool s1, .slice p1 k1 c1, .slice q1 l1 d1]) a) (hb : NRep w (.agg #[.bool sz1, .slice pz1 kz1 cz1, .slice qz1 lz1 dz1]) b) (ht : TabOk w) :
    Calls Tryz.prog 10 #[.agg #[.bool s1, .slice p1 k1 c1, .slice q1 l1 d1, .bool sz1, .slice pz1 kz1 cz1, .slice qz1 lz1 dz1, .bool x1, .bool y1], .int .i64 p] w fun e w' => e = .returned (.bool true) ∧ Below w.heap.size w w' := by
  have HP0 := hid (fun (W : World) (hW : Below w.heap.size w W) => iRound_any s1 p1 k1 c1 q1 l1 d1 sz1 pz1 kz1 cz1 qz1 lz1 dz1 x1 y1 a b p W (ha.below hW) (hb.below hW) (ht.below hW))
  have HR0 := hid (fun (W : World) (hW : Below w.heap.size w W) => jRound_any s1 p1 k1 c1 q1 l1 d1 sz1 pz1 kz1 cz1 qz1 lz1 dz1 x1 y1 a b p W (ha.below hW) (hb.below hW))
  have HI0 := hid (fun (W : World) (s5 : Bool) (p5 : Option Addr) (k5 c5 : Nat) (q5 : Option Addr) (l5 d5 : Nat) (sz5 : Bool) (pz5 : Option Addr) (kz5 cz5 : Nat) (qz5 : Option Addr) (lz5 dz5 : Nat) (x5 : Bool) (y5 : Bool) (s6 : Bool) (p6 : Option Addr) (k6 c6 : Nat) (q6 : Option Addr) (l6 d6 : Nat) (sz6 : Bool) (pz6 : Option Addr) (kz6 cz6 : Nat) (qz6 : Option Addr) (lz6 dz6 : Nat) (x6 : Bool) (y6 : Bool) (h : GRep W (.agg #[.bool s5, .slice p5 k5 c5, .slice q5 l5 d5, .bool sz5, .slice pz5 kz5 cz5, .slice qz5 lz5 dz5, .bool x5, .bool y5]) (oval (prec p) (srnd p) (a, b, x1, y1))) (h' : GRep W (.agg #[.bool s6, .slice p6 k6 c6, .slice q6 l6 d6, .bool sz6, .slice pz6 kz6 cz6, .slice qz6 lz6 dz6, .bool x6, .bool y6]) (oval (prec p) (srnd p) (a, b, x1, y1))) => is3_any s5 p5 k5 c5 q5 l5 d5 sz5 pz5 kz5 cz5 qz5 lz5 dz5 x5 y5 s6 p6 k6 c6 q6 l6 d6 sz6 pz6 kz6 cz6 qz6 lz6 dz6 x6 y6 (ocode (prec p) (srnd p) (a, b, x1, y1)) _ W (rnd_ok a b x1 y1 p) (oval_err _ _ a b x1 y1) h h')
  have HA := hid (fun (W : World) (hW : Below w.heap.size w W) => awake3_any W (ht.below hW))
  clear ha hb ht
  obtain ⟨c0, hc0⟩ : ∃ r, r = ocode (prec p) (srnd p) (a, b, x1, y1) := ⟨_, rfl⟩
  obtain ⟨D0, hD0⟩ : ∃ r, r = oval (prec p) (srnd p) (a, b, x1, y1) := ⟨_, rfl⟩
  rw [← hc0, ← hD0] at HP0 HR0 HI0
  clear hc0 hD0
  go_enter Tryz.func10, Tryz.ntmps10
  go_wp2_with fail
  have HV := hid (pre1 w [.bool s1, .slice p1 k1 c1, .slice q1 l1 d1, .bool sz1, .slice pz1 kz1 cz1, .slice qz1 lz1 dz1, .bool x1, .bool y1] 26 ⟨trivial, trivial, trivial, trivial, trivial, trivial, trivial, trivial, trivial⟩)
  generalize w.alloc (.cells #[.bool s1, .slice p1 k1 c1, .slice q1 l1 d1, .bool sz1, .slice pz1 kz1 cz1, .slice qz1 lz1 dz1, .bool x1, .bool y1] 26) = W0 at *
  have HB0 := hid (HV.out.2)
  have Hx0 := hid (HV.out.1)
  clear HV
  refine (HP0.out _ (HB0.out)).mono ?_
  rintro e w11 ⟨s11, p11, k11, c11, q11, l11, d11, sz11, pz11, kz11, cz11, qz11, lz11, dz11, x11, y11, rfl, hG11, hB11⟩
  have Hs1_x0 := hid ((Hx0.out).below hB11)
  have HB1 := hid ((HB0.out).trans ((hB11).mono (HB0.out).size))
  go_upto_region 2 with fail
  have HX11 := hid (pre1 w11 [.bool s11, .slice p11 k11 c11, .slice q11 l11 d11, .bool sz11, .slice pz11 kz11 cz11, .slice qz11 lz11 dz11, .bool x11, .bool y11] 26 ⟨trivial, trivial, trivial, trivial, trivial, trivial, trivial, trivial, trivial⟩)
  have hlt11_x0 := (Hs1_x0.out).lt
  generalize w11.alloc (.cells #[.bool s11, .slice p11 k11 c11, .slice q11 l11 d11, .bool sz11, .slice pz11 kz11 cz11, .slice qz11 lz11 dz11, .bool x11, .bool y11] 26) = W11 at *
  have Hs2_x0 := hid ((Hs1_x0.out).below HX11.out.2)
  have Hs2_g11 := hid ((hG11.out).below HX11.out.2)
  have HB2 := hid ((HB1.out).trans ((HX11.out.2).mono (HB1.out).size))
  have Hb11 := hid HX11.out.1
  obtain ⟨m0_0, m0_1, m0_2, m0_3, m0_4, m0_5, m0_6, m0_7, _⟩ := (Hs2_x0.out).cells8
  obtain ⟨m1_0, m1_1, m1_2, m1_3, m1_4, m1_5, m1_6, m1_7, _⟩ := (Hb11.out).cells8
  go_wp2_with fail
  refine (HR0.out _ (HB2.out)).mono ?_
  rintro e w12 ⟨s12, p12, k12, c12, q12, l12, d12, sz12, pz12, kz12, cz12, qz12, lz12, dz12, x12, y12, rfl, hG12, hB12⟩
  clear m0_0 m0_1 m0_2 m0_3 m0_4 m0_5 m0_6 m0_7 m1_0 m1_1 m1_2 m1_3 m1_4 m1_5 m1_6 m1_7
  have Hs3_x0 := hid ((Hs2_x0.out).below hB12)
  have Hs3_g11 := hid ((Hs2_g11.out).below hB12)
  have Hs3_b11 := hid ((Hb11.out).below hB12)
  have HB3 := hid ((HB2.out).trans ((hB12).mono (HB2.out).size))
  go_upto_region 3 with fail
  have HX12 := hid (pre1 w12 [.bool s12, .slice p12 k12 c12, .slice q12 l12 d12, .bool sz12, .slice pz12 kz12 cz12, .slice qz12 lz12 dz12, .bool x12, .bool y12] 26 ⟨trivial, trivial, trivial, trivial, trivial, trivial, trivial, trivial, trivial⟩)
  have hlt12_x0 := (Hs3_x0.out).lt
  have hlt12_b11 := (Hs3_b11.out).lt
  generalize w12.alloc (.cells #[.bool s12, .slice p12 k12 c12, .slice q12 l12 d12, .bool sz12, .slice pz12 kz12 cz12, .slice qz12 lz12 dz12, .bool x12, .bool y12] 26) = W12 at *
  have Hs4_x0 := hid ((Hs3_x0.out).below HX12.out.2)
  have Hs4_g11 := hid ((Hs3_g11.out).below HX12.out.2)
  have Hs4_b11 := hid ((Hs3_b11.out).below HX12.out.2)
  have Hs4_g12 := hid ((hG12.out).below HX12.out.2)
  have HB4 := hid ((HB3.out).trans ((HX12.out.2).mono (HB3.out).size))
  have Hb12 := hid HX12.out.1
  obtain ⟨m0_0, m0_1, m0_2, m0_3, m0_4, m0_5, m0_6, m0_7, _⟩ := (Hs4_x0.out).cells8
  obtain ⟨m1_0, m1_1, m1_2, m1_3, m1_4, m1_5, m1_6, m1_7, _⟩ := (Hs4_b11.out).cells8
  obtain ⟨m2_0, m2_1, m2_2, m2_3, m2_4, m2_5, m2_6, m2_7, _⟩ := (Hb12.out).cells8
  go_wp2_with fail
  refine (HI0.out _ s11 p11 k11 c11 q11 l11 d11 sz11 pz11 kz11 cz11 qz11 lz11 dz11 x11 y11 s12 p12 k12 c12 q12 l12 d12 sz12 pz12 kz12 cz12 qz12 lz12 dz12 x12 y12 Hs4_g11.out Hs4_g12.out).mono ?_
  rintro e w13 ⟨rfl, hB13⟩
  clear m0_0 m0_1 m0_2 m0_3 m0_4 m0_5 m0_6 m0_7 m1_0 m1_1 m1_2 m1_3 m1_4 m1_5 m1_6 m1_7 m2_0 m2_1 m2_2 m2_3 m2_4 m2_5 m2_6 m2_7
  have Hs5_x0 := hid ((Hs4_x0.out).below hB13)
  have Hs5_g11 := hid ((Hs4_g11.out).below hB13)
  have Hs5_b11 := hid ((Hs4_b11.out).below hB13)
  have Hs5_g12 := hid ((Hs4_g12.out).below hB13)
  have Hs5_b12 := hid ((Hb12.out).below hB13)
  have HB5 := hid ((HB4.out).trans ((hB13).mono (HB4.out).size))
  have HZ0 := hid (HB5.out)
  clear hG11 hG12
  go_wp2_with fail
  refine (HA.out _ HZ0.out).mono ?_
  rintro e w14 ⟨rfl, hB14⟩
  have HZ1 := hid ((HZ0.out).trans (hB14.mono (HZ0.out).size))
  go_wp2_with fail
  go_ret
  exact ⟨rfl, HZ1.out⟩

theorem IntervalRounds_any (v : Value) (i : (Bool × Nat × Nat) × (Bool × Nat × Nat) × Bool × Bool) (p : Int) (w : World) (ha : IRep w v i) (_hlo : -9223372036854775808 ≤ p) (_hhi : p < 9223372036854775808) (ht : TabOk w) :
    Calls Tryz.prog 10 #[v, .int .i64 p] w fun e w' => e = .returned (.bool true) ∧ Below w.heap.size w w' := by
  obtain ⟨s1, p1, k1, c1, q1, l1, d1, sz1, pz1, kz1, cz1, qz1, lz1, dz1, x1, y1, rfl, h1, h2, rfl, rfl⟩ := ha
  exact IntervalRounds_iv s1 p1 k1 c1 q1 l1 d1 sz1 pz1 kz1 cz1 qz1 lz1 dz1 _ _ p i.1 i.2.1 w h1 h2 ht
end Go.Proofs.YtpdpabpdejmdbaaGreatDoor
