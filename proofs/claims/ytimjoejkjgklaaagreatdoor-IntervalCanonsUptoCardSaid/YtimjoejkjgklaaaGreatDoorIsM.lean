/- Intervals of the program: Canon, Between, Point, Whole. Intervals of the reference: Canon, Between, Point, Whole. Canon of both sides is the same. -/
import Derived.Test.YtimjoejkjgklaaaGreatDoorMkI
import Derived.Test.YtimjoejkjgklaaaGreatDoorCan3
import Derived.Test.YtimjoejkjgklaaaGreatDoorIsJ
set_option maxHeartbeats 2000000
set_option maxRecDepth 100000
namespace Go.Proofs.YtimjoejkjgklaaaGreatDoor
open Go.RowKit Dg
theorem iCanon_ret {W : World} {B : Nat} {a0 a1 a2 a3 a4 a5 a6 a7 ev : Value} {tm : Array Value} {R : Ending → World → Prop} (h2 : tm[2]?.getD undef = .pointer (some ⟨B, 0, none⟩)) (h3 : tm[3]?.getD undef = ev) (hV : Box W B #[a0, a1, a2, a3, a4, a5, a6, a7]) (hR : R (.returned (.tuple #[.agg #[a0, a1, a2, a3, a4, a5, a6, a7], ev])) W) :
    bodyPost Tryz.prog Tryz.f10 R .ret { tmps := tm, defers := [] } W := by
  obtain ⟨g0, g1, g2, g3, g4, g5, g6, g7, _⟩ := hV.cells8
  exact bodyPost_ret (v := .tuple #[.agg #[a0, a1, a2, a3, a4, a5, a6, a7], ev]) (by simp [results, Tryz.results10, go_sem, h2, h3, g0, g1, g2, g3, g4, g5, g6, g7]) rfl hR
theorem iCanon_any (s1 : Bool) (p1 : Option Addr) (k1 c1 : Nat) (q1 : Option Addr) (l1 d1 : Nat) (sz1 : Bool) (pz1 : Option Addr) (kz1 cz1 : Nat) (qz1 : Option Addr) (lz1 dz1 : Nat) (x1 : Bool) (y1 : Bool) (a b : Bool × Nat × Nat) (w : World) (ha : NRep w (.agg #[.bool s1, .slice p1 k1 c1, .slice q1 l1 d1]) a) (hb : NRep w (.agg #[.bool sz1, .slice pz1 kz1 cz1, .slice qz1 lz1 dz1]) b) (ht : TabOk w) :
    Calls Tryz.prog 10 #[.agg #[.bool s1, .slice p1 k1 c1, .slice q1 l1 d1, .bool sz1, .slice pz1 kz1 cz1, .slice qz1 lz1 dz1, .bool x1, .bool y1]] w fun e w' => ∃ s5 p5 k5 c5 q5 l5 d5 sz5 pz5 kz5 cz5 qz5 lz5 dz5 x5 y5, e = .returned (.tuple #[.agg #[.bool s5, .slice p5 k5 c5, .slice q5 l5 d5, .bool sz5, .slice pz5 kz5 cz5, .slice qz5 lz5 dz5, .bool x5, .bool y5], .int .i64 (icode (a, b, x1, y1))]) ∧ Hid (GRep w' (.agg #[.bool s5, .slice p5 k5 c5, .slice q5 l5 d5, .bool sz5, .slice pz5 kz5 cz5, .slice qz5 lz5 dz5, .bool x5, .bool y5]) (ican (a, b, x1, y1))) ∧ Below w.heap.size w w' := by
  obtain ⟨c, hc⟩ : ∃ r, r = icode (a, b, x1, y1) := ⟨_, rfl⟩
  obtain ⟨D, hD⟩ : ∃ r, r = ican (a, b, x1, y1) := ⟨_, rfl⟩
  rw [← hc, ← hD]
  have HC : Hid (∀ W, Below w.heap.size w W → Calls Tryz.prog 43 #[.agg #[.bool s1, .slice p1 k1 c1, .slice q1 l1 d1, .bool sz1, .slice pz1 kz1 cz1, .slice qz1 lz1 dz1, .bool x1, .bool y1], .func (.func 44) #[] #[]] W fun e w' => ∃ s5 p5 k5 c5 q5 l5 d5 sz5 pz5 kz5 cz5 qz5 lz5 dz5 x5 y5, e = .returned (.tuple #[.agg #[.bool s5, .slice p5 k5 c5, .slice q5 l5 d5, .bool sz5, .slice pz5 kz5 cz5, .slice qz5 lz5 dz5, .bool x5, .bool y5], .int .i64 c]) ∧ Hid (GRep w' (.agg #[.bool s5, .slice p5 k5 c5, .slice q5 l5 d5, .bool sz5, .slice pz5 kz5 cz5, .slice qz5 lz5 dz5, .bool x5, .bool y5]) D) ∧ Below W.heap.size W w') := by
    refine hid fun W hW => ?_
    cases hL : (large a.2.1 a.2.2 || large b.2.1 b.2.2)
    · have hla : ilarge (a, b, x1, y1) = false := hL
      rw [Bool.or_eq_false_iff] at hL
      have ec : c = 0 := by rw [hc]; unfold icode; rw [hla]; rfl
      have eD : D = giv (srd (a, b, x1, y1)) := by rw [hD]; unfold ican; rw [hla]; rfl
      rw [ec, eD]
      exact askI_ok s1 p1 k1 c1 q1 l1 d1 sz1 pz1 kz1 cz1 qz1 lz1 dz1 x1 y1 _ #[] a b _ W (ha.below hW) (hb.below hW) hL.1 hL.2 (ht.below hW) enter_siv fun W4 i3 s3 p3 k3 c3 q3 l3 d3 j3 sz3 pz3 kz3 cz3 qz3 lz3 dz3 e3 hW4 hS => siv_rd i3 s3 p3 k3 c3 q3 l3 d3 j3 sz3 pz3 kz3 cz3 qz3 lz3 dz3 e3 a b x1 y1 W4 hS hL.1 hL.2
    · have hla : ilarge (a, b, x1, y1) = true := hL
      have ec : c = 1 := by rw [hc]; unfold icode; rw [hla]; rfl
      have eD : D = gzero := by rw [hD]; unfold ican; rw [hla]; rfl
      rw [ec, eD]
      exact askI_large s1 p1 k1 c1 q1 l1 d1 sz1 pz1 kz1 cz1 qz1 lz1 dz1 x1 y1 _ #[] a b W (ha.below hW) (hb.below hW) hL (ht.below hW)
  clear ha hb ht hc hD
  go_enter Tryz.func10, Tryz.ntmps10
  go_wp2_with fail
  have HV := hid (pre2 w [.bool s1, .slice p1 k1 c1, .slice q1 l1 d1, .bool sz1, .slice pz1 kz1 cz1, .slice qz1 lz1 dz1, .bool x1, .bool y1] [.bool false, .slice none 0 0, .slice none 0 0, .bool false, .slice none 0 0, .slice none 0 0, .bool false, .bool false] 26 26 nd8 nd8)
  generalize (w.alloc (.cells #[.bool s1, .slice p1 k1 c1, .slice q1 l1 d1, .bool sz1, .slice pz1 kz1 cz1, .slice qz1 lz1 dz1, .bool x1, .bool y1] 26)).alloc (.cells #[.bool false, .slice none 0 0, .slice none 0 0, .bool false, .slice none 0 0, .slice none 0 0, .bool false, .bool false] 26) = W0 at *
  refine (HC.out _ HV.out.2.2).mono ?_
  rintro e w1 ⟨s5, p5, k5, c5, q5, l5, d5, sz5, pz5, kz5, cz5, qz5, lz5, dz5, x5, y5, rfl, hG, hB1⟩
  have HE := hid (And.intro (HV.out.2.1.below hB1) (HV.out.2.2.trans (hB1.mono HV.out.2.2.size)))
  clear hB1
  obtain ⟨g0, g1, g2, g3, g4, g5, g6, g7, f0, f1, f2, f3, f4, f5, f6, f7⟩ := HE.out.1.cells8
  go_wp2_with fail
  exact iCanon_ret rfl rfl (HE.out.1.stores [.bool s5, .slice p5 k5 c5, .slice q5 l5 d5, .bool sz5, .slice pz5 kz5 cz5, .slice qz5 lz5 dz5, .bool x5, .bool y5] rfl nd8) ⟨s5, p5, k5, c5, q5, l5, d5, sz5, pz5, kz5, cz5, qz5, lz5, dz5, x5, y5, rfl, hid (GRep.stores (k := 0) (l := [.bool s5, .slice p5 k5 c5, .slice q5 l5 d5, .bool sz5, .slice pz5 kz5 cz5, .slice qz5 lz5 dz5, .bool x5, .bool y5]) hG.out HE.out.1 nd8), Below.stores (k := 0) (l := [.bool s5, .slice p5 k5 c5, .slice q5 l5 d5, .bool sz5, .slice pz5 kz5 cz5, .slice qz5 lz5 dz5, .bool x5, .bool y5]) HE.out.2 (by omega)⟩
end Go.Proofs.YtimjoejkjgklaaaGreatDoor
namespace Go.Proofs.YtimjoejkjgklaaaGreatDoor
open Go.RowKit Dg
/-- What Canon of the reference returns. -/
def jcan (a : (Bool × Nat × Nat) × (Bool × Nat × Nat) × Bool × Bool) : (Bool × Nat × Nat) × (Bool × Nat × Nat) × Bool × Bool := if ilarge a then gzero else japi (jof a)
theorem jbd_of {a b : Bool × Nat × Nat} {x y : Bool} (h1 : large a.2.1 a.2.2 = false) (h2 : large b.2.1 b.2.2 = false) : JBd (jof (a, b, x, y)) := by
  have ha := fr_bd h1
  have hb := fr_bd h2
  unfold jof
  split
  · exact ⟨⟨b16_0, b16_0⟩, b16_0, b16_0⟩
  · refine ⟨?_, ?_⟩
    · cases x
      · exact ⟨b16_64 ha.1, b16_64 ha.2⟩
      · exact ⟨b16_0, b16_0⟩
    · cases y
      · exact ⟨b16_64 hb.1, b16_64 hb.2⟩
      · exact ⟨b16_0, b16_0⟩
theorem jCanon_ret {W : World} {B : Nat} {a0 a1 a2 a3 a4 a5 a6 a7 ev : Value} {tm : Array Value} {R : Ending → World → Prop} (h2 : tm[2]?.getD undef = .pointer (some ⟨B, 0, none⟩)) (h3 : tm[3]?.getD undef = ev) (hV : Box W B #[a0, a1, a2, a3, a4, a5, a6, a7]) (hR : R (.returned (.tuple #[.agg #[a0, a1, a2, a3, a4, a5, a6, a7], ev])) W) :
    bodyPost Tryz.prog Tryz.f11 R .ret { tmps := tm, defers := [] } W := by
  obtain ⟨g0, g1, g2, g3, g4, g5, g6, g7, _⟩ := hV.cells8
  exact bodyPost_ret (v := .tuple #[.agg #[a0, a1, a2, a3, a4, a5, a6, a7], ev]) (by simp [results, Tryz.results11, go_sem, h2, h3, g0, g1, g2, g3, g4, g5, g6, g7]) rfl hR
theorem jCanon_large (s1 : Bool) (p1 : Option Addr) (k1 c1 : Nat) (q1 : Option Addr) (l1 d1 : Nat) (sz1 : Bool) (pz1 : Option Addr) (kz1 cz1 : Nat) (qz1 : Option Addr) (lz1 dz1 : Nat) (x1 : Bool) (y1 : Bool) (a b : Bool × Nat × Nat) (w : World) (ha : NRep w (.agg #[.bool s1, .slice p1 k1 c1, .slice q1 l1 d1]) a) (hb : NRep w (.agg #[.bool sz1, .slice pz1 kz1 cz1, .slice qz1 lz1 dz1]) b) (h : ilarge (a, b, x1, y1) = true) :
    Calls Tryz.prog 11 #[.agg #[.bool s1, .slice p1 k1 c1, .slice q1 l1 d1, .bool sz1, .slice pz1 kz1 cz1, .slice qz1 lz1 dz1, .bool x1, .bool y1]] w fun e w' => ∃ s5 p5 k5 c5 q5 l5 d5 sz5 pz5 kz5 cz5 qz5 lz5 dz5 x5 y5, e = .returned (.tuple #[.agg #[.bool s5, .slice p5 k5 c5, .slice q5 l5 d5, .bool sz5, .slice pz5 kz5 cz5, .slice qz5 lz5 dz5, .bool x5, .bool y5], .int .i64 1]) ∧ Hid (GRep w' (.agg #[.bool s5, .slice p5 k5 c5, .slice q5 l5 d5, .bool sz5, .slice pz5 kz5 cz5, .slice qz5 lz5 dz5, .bool x5, .bool y5]) gzero) ∧ Below w.heap.size w w' := by
  have HL := hid (fun (W : World) (hW : Below w.heap.size w W) => jOne_large s1 p1 k1 c1 q1 l1 d1 sz1 pz1 kz1 cz1 qz1 lz1 dz1 x1 y1 a b 0 W (ha.below hW) (hb.below hW) h)
  clear ha hb h
  go_enter Tryz.func11, Tryz.ntmps11
  go_wp2_with fail
  have HV := hid (pre2 w [.bool s1, .slice p1 k1 c1, .slice q1 l1 d1, .bool sz1, .slice pz1 kz1 cz1, .slice qz1 lz1 dz1, .bool x1, .bool y1] [.bool false, .slice none 0 0, .slice none 0 0, .bool false, .slice none 0 0, .slice none 0 0, .bool false, .bool false] 26 26 nd8 nd8)
  generalize (w.alloc (.cells #[.bool s1, .slice p1 k1 c1, .slice q1 l1 d1, .bool sz1, .slice pz1 kz1 cz1, .slice qz1 lz1 dz1, .bool x1, .bool y1] 26)).alloc (.cells #[.bool false, .slice none 0 0, .slice none 0 0, .bool false, .slice none 0 0, .slice none 0 0, .bool false, .bool false] 26) = W0 at *
  refine (HL.out _ HV.out.2.2).mono ?_
  rintro e w1 ⟨rfl, hB1⟩
  have HE := hid (And.intro (HV.out.2.1.below hB1) (HV.out.2.2.trans (hB1.mono HV.out.2.2.size)))
  clear hB1
  go_upto_region 3 with fail
  have HX := hid (pre1 w1 [.bool false, .slice none 0 0, .slice none 0 0, .bool false, .slice none 0 0, .slice none 0 0, .bool false, .bool false, .bool false] 66 nd9)
  have hlt : w.heap.size + 1 < w1.heap.size := HE.out.1.lt
  generalize w1.alloc (.cells #[.bool false, .slice none 0 0, .slice none 0 0, .bool false, .slice none 0 0, .slice none 0 0, .bool false, .bool false, .bool false] 66) = W1 at *
  have HE2 := hid (And.intro (HE.out.1.below HX.out.2) (HE.out.2.trans (HX.out.2.mono HE.out.2.size)))
  obtain ⟨g0, g1, g2, g3, g4, g5, g6, g7, f0, f1, f2, f3, f4, f5, f6, f7⟩ := HE2.out.1.cells8
  go_wp2_with fail
  exact jCanon_ret rfl rfl (HE2.out.1.stores [.bool false, .slice none 0 0, .slice none 0 0, .bool false, .slice none 0 0, .slice none 0 0, .bool false, .bool false] rfl nd8) ⟨_, _, _, _, _, _, _, _, _, _, _, _, _, _, _, _, rfl, hid (GRep.stores (k := 0) (l := [.bool false, .slice none 0 0, .slice none 0 0, .bool false, .slice none 0 0, .slice none 0 0, .bool false, .bool false] ) (GRep.zero W1) HE2.out.1 nd8), Below.stores (k := 0) (l := [.bool false, .slice none 0 0, .slice none 0 0, .bool false, .slice none 0 0, .slice none 0 0, .bool false, .bool false] ) HE2.out.2 (by omega)⟩
theorem jCanon_ok (s1 : Bool) (p1 : Option Addr) (k1 c1 : Nat) (q1 : Option Addr) (l1 d1 : Nat) (sz1 : Bool) (pz1 : Option Addr) (kz1 cz1 : Nat) (qz1 : Option Addr) (lz1 dz1 : Nat) (x1 : Bool) (y1 : Bool) (a b : Bool × Nat × Nat) (w : World) (ha : NRep w (.agg #[.bool s1, .slice p1 k1 c1, .slice q1 l1 d1]) a) (hb : NRep w (.agg #[.bool sz1, .slice pz1 kz1 cz1, .slice qz1 lz1 dz1]) b) (h1 : large a.2.1 a.2.2 = false) (h2 : large b.2.1 b.2.2 = false) :
    Calls Tryz.prog 11 #[.agg #[.bool s1, .slice p1 k1 c1, .slice q1 l1 d1, .bool sz1, .slice pz1 kz1 cz1, .slice qz1 lz1 dz1, .bool x1, .bool y1]] w fun e w' => ∃ s5 p5 k5 c5 q5 l5 d5 sz5 pz5 kz5 cz5 qz5 lz5 dz5 x5 y5, e = .returned (.tuple #[.agg #[.bool s5, .slice p5 k5 c5, .slice q5 l5 d5, .bool sz5, .slice pz5 kz5 cz5, .slice qz5 lz5 dz5, .bool x5, .bool y5], .int .i64 0]) ∧ Hid (GRep w' (.agg #[.bool s5, .slice p5 k5 c5, .slice q5 l5 d5, .bool sz5, .slice pz5 kz5 cz5, .slice qz5 lz5 dz5, .bool x5, .bool y5]) (japi (jof (a, b, x1, y1)))) ∧ Below w.heap.size w w' := by
  have HL := hid (fun (W : World) (hW : Below w.heap.size w W) => jOne_ok s1 p1 k1 c1 q1 l1 d1 sz1 pz1 kz1 cz1 qz1 lz1 dz1 x1 y1 a b 0 W (ha.below hW) (hb.below hW) h1 h2 (by omega) (by omega))
  have HA := hid (fun (W : World) (s3 : Bool) (p3 : Option Addr) (k3 c3 : Nat) (q3 : Option Addr) (l3 d3 : Nat) (sz3 : Bool) (pz3 : Option Addr) (kz3 cz3 : Nat) (qz3 : Option Addr) (lz3 dz3 : Nat) (x3 : Bool) (y3 : Bool) (e3 : Bool) (h : JRep W (.agg #[.bool s3, .slice p3 k3 c3, .slice q3 l3 d3, .bool sz3, .slice pz3 kz3 cz3, .slice qz3 lz3 dz3, .bool x3, .bool y3, .bool e3]) (jof (a, b, x1, y1))) => jApi_any s3 p3 k3 c3 q3 l3 d3 sz3 pz3 kz3 cz3 qz3 lz3 dz3 x3 y3 e3 _ W h (jbd_of h1 h2))
  clear ha hb h1 h2
  obtain ⟨r, hr⟩ : ∃ r, r = jof (a, b, x1, y1) := ⟨_, rfl⟩
  rw [← hr] at HL HA
  rw [← hr]
  clear hr
  go_enter Tryz.func11, Tryz.ntmps11
  go_wp2_with fail
  have HV := hid (pre2 w [.bool s1, .slice p1 k1 c1, .slice q1 l1 d1, .bool sz1, .slice pz1 kz1 cz1, .slice qz1 lz1 dz1, .bool x1, .bool y1] [.bool false, .slice none 0 0, .slice none 0 0, .bool false, .slice none 0 0, .slice none 0 0, .bool false, .bool false] 26 26 nd8 nd8)
  generalize (w.alloc (.cells #[.bool s1, .slice p1 k1 c1, .slice q1 l1 d1, .bool sz1, .slice pz1 kz1 cz1, .slice qz1 lz1 dz1, .bool x1, .bool y1] 26)).alloc (.cells #[.bool false, .slice none 0 0, .slice none 0 0, .bool false, .slice none 0 0, .slice none 0 0, .bool false, .bool false] 26) = W0 at *
  refine (HL.out _ HV.out.2.2).mono ?_
  rintro e w1 ⟨s2, p2, k2, c2, q2, l2, d2, sz2, pz2, kz2, cz2, qz2, lz2, dz2, x2, y2, e2, rfl, hJ, hB1⟩
  have HE := hid (And.intro (HV.out.2.1.below hB1) (HV.out.2.2.trans (hB1.mono HV.out.2.2.size)))
  clear hB1
  go_upto_region 4 with fail
  have HX := hid (pre1 w1 [.bool s2, .slice p2 k2 c2, .slice q2 l2 d2, .bool sz2, .slice pz2 kz2 cz2, .slice qz2 lz2 dz2, .bool x2, .bool y2, .bool e2] 66 nd9)
  have hlt : w.heap.size + 1 < w1.heap.size := HE.out.1.lt
  have HJ := hid (hJ.out.below HX.out.2)
  clear hJ
  generalize w1.alloc (.cells #[.bool s2, .slice p2 k2 c2, .slice q2 l2 d2, .bool sz2, .slice pz2 kz2 cz2, .slice qz2 lz2 dz2, .bool x2, .bool y2, .bool e2] 66) = W1 at *
  have HE2 := hid (And.intro (HE.out.1.below HX.out.2) (HE.out.2.trans (HX.out.2.mono HE.out.2.size)))
  obtain ⟨m0, m1, m2, m3, m4, m5, m6, m7, m8, _⟩ := HX.out.1.cells9
  go_wp2_with fail
  refine (HA.out _ s2 p2 k2 c2 q2 l2 d2 sz2 pz2 kz2 cz2 qz2 lz2 dz2 x2 y2 e2 HJ.out).mono ?_
  rintro e w2 ⟨s5, p5, k5, c5, q5, l5, d5, sz5, pz5, kz5, cz5, qz5, lz5, dz5, x5, y5, rfl, hG, hB2⟩
  have HE3 := hid (And.intro (HE2.out.1.below hB2) (HE2.out.2.trans (hB2.mono HE2.out.2.size)))
  clear hB2
  obtain ⟨g0, g1, g2, g3, g4, g5, g6, g7, f0, f1, f2, f3, f4, f5, f6, f7⟩ := HE3.out.1.cells8
  go_wp2_with fail
  exact jCanon_ret rfl rfl (HE3.out.1.stores [.bool s5, .slice p5 k5 c5, .slice q5 l5 d5, .bool sz5, .slice pz5 kz5 cz5, .slice qz5 lz5 dz5, .bool x5, .bool y5] rfl nd8) ⟨s5, p5, k5, c5, q5, l5, d5, sz5, pz5, kz5, cz5, qz5, lz5, dz5, x5, y5, rfl, hid (GRep.stores (k := 0) (l := [.bool s5, .slice p5 k5 c5, .slice q5 l5 d5, .bool sz5, .slice pz5 kz5 cz5, .slice qz5 lz5 dz5, .bool x5, .bool y5]) hG.out HE3.out.1 nd8), Below.stores (k := 0) (l := [.bool s5, .slice p5 k5 c5, .slice q5 l5 d5, .bool sz5, .slice pz5 kz5 cz5, .slice qz5 lz5 dz5, .bool x5, .bool y5]) HE3.out.2 (by omega)⟩
theorem jCanon_any (s1 : Bool) (p1 : Option Addr) (k1 c1 : Nat) (q1 : Option Addr) (l1 d1 : Nat) (sz1 : Bool) (pz1 : Option Addr) (kz1 cz1 : Nat) (qz1 : Option Addr) (lz1 dz1 : Nat) (x1 : Bool) (y1 : Bool) (a b : Bool × Nat × Nat) (w : World) (ha : NRep w (.agg #[.bool s1, .slice p1 k1 c1, .slice q1 l1 d1]) a) (hb : NRep w (.agg #[.bool sz1, .slice pz1 kz1 cz1, .slice qz1 lz1 dz1]) b) :
    Calls Tryz.prog 11 #[.agg #[.bool s1, .slice p1 k1 c1, .slice q1 l1 d1, .bool sz1, .slice pz1 kz1 cz1, .slice qz1 lz1 dz1, .bool x1, .bool y1]] w fun e w' => ∃ s5 p5 k5 c5 q5 l5 d5 sz5 pz5 kz5 cz5 qz5 lz5 dz5 x5 y5, e = .returned (.tuple #[.agg #[.bool s5, .slice p5 k5 c5, .slice q5 l5 d5, .bool sz5, .slice pz5 kz5 cz5, .slice qz5 lz5 dz5, .bool x5, .bool y5], .int .i64 (icode (a, b, x1, y1))]) ∧ Hid (GRep w' (.agg #[.bool s5, .slice p5 k5 c5, .slice q5 l5 d5, .bool sz5, .slice pz5 kz5 cz5, .slice qz5 lz5 dz5, .bool x5, .bool y5]) (jcan (a, b, x1, y1))) ∧ Below w.heap.size w w' := by
  cases hL : (large a.2.1 a.2.2 || large b.2.1 b.2.2)
  · have hla : ilarge (a, b, x1, y1) = false := hL
    rw [Bool.or_eq_false_iff] at hL
    have ec : icode (a, b, x1, y1) = 0 := by unfold icode; rw [hla]; rfl
    have eD : jcan (a, b, x1, y1) = japi (jof (a, b, x1, y1)) := by unfold jcan; rw [hla]; rfl
    rw [ec, eD]
    exact jCanon_ok s1 p1 k1 c1 q1 l1 d1 sz1 pz1 kz1 cz1 qz1 lz1 dz1 x1 y1 a b w ha hb hL.1 hL.2
  · have hla : ilarge (a, b, x1, y1) = true := hL
    have ec : icode (a, b, x1, y1) = 1 := by unfold icode; rw [hla]; rfl
    have eD : jcan (a, b, x1, y1) = gzero := by unfold jcan; rw [hla]; rfl
    rw [ec, eD]
    exact jCanon_large s1 p1 k1 c1 q1 l1 d1 sz1 pz1 kz1 cz1 qz1 lz1 dz1 x1 y1 a b w ha hb hla
end Go.Proofs.YtimjoejkjgklaaaGreatDoor
namespace Go.Proofs.YtimjoejkjgklaaaGreatDoor
open Go.RowKit Dg
theorem can_eq (a b : Bool × Nat × Nat) (x y : Bool) : jcan (a, b, x, y) = ican (a, b, x, y) := by
  unfold jcan ican
  cases h : ilarge (a, b, x, y)
  · have h' : (large a.2.1 a.2.2 || large b.2.1 b.2.2) = false := h
    rw [Bool.or_eq_false_iff] at h'
    exact (giv_srd h'.1 h'.2).symm
  · rfl
theorem ican_ok (a b : Bool × Nat × Nat) (x y : Bool) (h : icode (a, b, x, y) = 0) : ∃ r, JGood r ∧ ican (a, b, x, y) = japi r := by
  unfold icode at h
  cases hl : ilarge (a, b, x, y)
  · have h' : (large a.2.1 a.2.2 || large b.2.1 b.2.2) = false := hl
    rw [Bool.or_eq_false_iff] at h'
    refine ⟨_, JGood.of (x := x) (y := y) h'.1 h'.2, ?_⟩
    rw [← giv_srd h'.1 h'.2]
    unfold ican
    rw [hl]
    rfl
  · rw [hl] at h
    exact absurd h (by decide)
theorem ican_err (a b : Bool × Nat × Nat) (x y : Bool) (h : icode (a, b, x, y) ≠ 0) : ican (a, b, x, y) = gzero := by
  unfold icode at h
  unfold ican
  cases hl : ilarge (a, b, x, y)
  · rw [hl] at h
    exact absurd rfl h
  · rfl
end Go.Proofs.YtimjoejkjgklaaaGreatDoor
