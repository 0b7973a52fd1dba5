/- The middle of a set, by the reference. -/
import Derived.Test.YtheojajaefjecaaGreatDoorMidM
import Derived.Test.YtheojajaefjecaaGreatDoorMkI
import Derived.Test.YtheojajaefjecaaGreatDoorRoadC
import Derived.WalkSmall
import Derived.Test.YtheojajaefjecaaGreatDoorIsJ
set_option maxHeartbeats 2000000
set_option maxRecDepth 100000
namespace Go.Proofs.YtheojajaefjecaaGreatDoor
open Go.RowKit Dg
theorem jCen_ret {W : World} {B : Nat} {a0 a1 a2 : Value} {tm : Array Value} {R : Ending → World → Prop} (h2 : tm[2]?.getD undef = .pointer (some ⟨B, 0, none⟩)) (hV : Box W B #[a0, a1, a2]) (hR : R (.returned (.agg #[a0, a1, a2])) W) :
  bodyPost Tryz.prog Tryz.f35 R .ret { tmps := tm, defers := [] } W := by
 obtain ⟨g0, g1, g2, _⟩ := hV.cells3
 exact bodyPost_ret (v := .agg #[a0, a1, a2]) (by simp [results, Tryz.results35, go_sem, h2, g0, g1, g2]) rfl hR
theorem jMid_ret {W : World} {B : Nat} {a0 a1 a2 ev : Value} {tm : Array Value} {R : Ending → World → Prop} (h2 : tm[2]?.getD undef = .pointer (some ⟨B, 0, none⟩)) (h3 : tm[3]?.getD undef = ev) (hV : Box W B #[a0, a1, a2]) (hR : R (.returned (.tuple #[.agg #[a0, a1, a2], ev])) W) :
  bodyPost Tryz.prog Tryz.f11 R .ret { tmps := tm, defers := [] } W := by
 obtain ⟨g0, g1, g2, _⟩ := hV.cells3
 exact bodyPost_ret (v := .tuple #[.agg #[a0, a1, a2], ev]) (by simp [results, Tryz.results11, go_sem, h2, h3, g0, g1, g2]) rfl hR
theorem jCen_n (s1 : Bool) (p1 : Option Addr) (k1 c1 : Nat) (q1 : Option Addr) (l1 d1 : Nat) (sz1 : Bool) (pz1 : Option Addr) (kz1 cz1 : Nat) (qz1 : Option Addr) (lz1 dz1 : Nat) (e1 : Bool) (tb : Bool × Nat × Nat) (w : World) (HF1 : Hid (∀ W, Calls Tryz.prog 30 #[.int .i64 0] W fun e w' => ∃ s5 p5 k5 c5 q5 l5 d5, e = .returned (.agg #[.bool s5, .slice p5 k5 c5, .slice q5 l5 d5]) ∧ Hid (QNorm w' (.agg #[.bool s5, .slice p5 k5 c5, .slice q5 l5 d5]) tb) ∧ Below W.heap.size W w')) :
  Calls Tryz.prog 35 #[.agg #[.bool s1, .slice p1 k1 c1, .slice q1 l1 d1, .bool sz1, .slice pz1 kz1 cz1, .slice qz1 lz1 dz1, .bool true, .bool true, .bool e1]] w fun e w' => ∃ s5 p5 k5 c5 q5 l5 d5, e = .returned (.agg #[.bool s5, .slice p5 k5 c5, .slice q5 l5 d5]) ∧ Hid (QNorm w' (.agg #[.bool s5, .slice p5 k5 c5, .slice q5 l5 d5]) tb) ∧ Below w.heap.size w w' := by
 go_enter Tryz.func35, Tryz.ntmps35
 go_upto_region 1 with fail
 have HV := hid (pre2 w [.bool s1, .slice p1 k1 c1, .slice q1 l1 d1, .bool sz1, .slice pz1 kz1 cz1, .slice qz1 lz1 dz1, .bool true, .bool true, .bool e1] [.bool false, .slice none 0 0, .slice none 0 0] 61 47 nd9 nd3)
 generalize (w.alloc (.cells #[.bool s1, .slice p1 k1 c1, .slice q1 l1 d1, .bool sz1, .slice pz1 kz1 cz1, .slice qz1 lz1 dz1, .bool true, .bool true, .bool e1] 61)).alloc (.cells #[.bool false, .slice none 0 0, .slice none 0 0] 47) = W0 at *
 obtain ⟨m0, m1, m2, m3, m4, m5, m6, m7, m8, _⟩ := HV.out.1.cells9
 go_wp2_with fail
 refine (HF1.out _).mono ?_
 rintro e w5 ⟨s5, p5, k5, c5, q5, l5, d5, rfl, hF, hB5⟩
 have HE2 := hid (And.intro (HV.out.2.1.below hB5) (And.intro hF.out (HV.out.2.2.trans (hB5.mono HV.out.2.2.size))))
 clear hB5 hF m0 m1 m2 m3 m4 m5 m6 m7 m8
 obtain ⟨g0, g1, g2, f0, f1, f2⟩ := HE2.out.1.cells3
 go_wp2_with fail
 exact jCen_ret rfl (HE2.out.1.stores [.bool s5, .slice p5 k5 c5, .slice q5 l5 d5] rfl nd3) ⟨s5, p5, k5, c5, q5, l5, d5, rfl, hid (QNorm.stores (k := 0) (l := [.bool s5, .slice p5 k5 c5, .slice q5 l5 d5]) HE2.out.2.1 HE2.out.1 nd3), Below.stores (k := 0) (l := [.bool s5, .slice p5 k5 c5, .slice q5 l5 d5]) HE2.out.2.2 (by omega)⟩
theorem jCen_b (s1 : Bool) (p1 : Option Addr) (k1 c1 : Nat) (q1 : Option Addr) (l1 d1 : Nat) (sz1 : Bool) (pz1 : Option Addr) (kz1 cz1 : Nat) (qz1 : Option Addr) (lz1 dz1 : Nat) (e1 : Bool) (tm : Bool × Nat × Nat) (w : World) (HM : Hid (∀ W, Below w.heap.size w W → Calls Tryz.prog 94 #[.agg #[.bool s1, .slice p1 k1 c1, .slice q1 l1 d1], .agg #[.bool sz1, .slice pz1 kz1 cz1, .slice qz1 lz1 dz1]] W fun e w' => ∃ s5 p5 k5 c5 q5 l5 d5, e = .returned (.agg #[.bool s5, .slice p5 k5 c5, .slice q5 l5 d5]) ∧ Hid (QNorm w' (.agg #[.bool s5, .slice p5 k5 c5, .slice q5 l5 d5]) tm) ∧ Below W.heap.size W w')) :
  Calls Tryz.prog 35 #[.agg #[.bool s1, .slice p1 k1 c1, .slice q1 l1 d1, .bool sz1, .slice pz1 kz1 cz1, .slice qz1 lz1 dz1, .bool false, .bool false, .bool e1]] w fun e w' => ∃ s5 p5 k5 c5 q5 l5 d5, e = .returned (.agg #[.bool s5, .slice p5 k5 c5, .slice q5 l5 d5]) ∧ Hid (QNorm w' (.agg #[.bool s5, .slice p5 k5 c5, .slice q5 l5 d5]) tm) ∧ Below w.heap.size w w' := by
 go_enter Tryz.func35, Tryz.ntmps35
 go_upto_region 1 with fail
 have HV := hid (pre2 w [.bool s1, .slice p1 k1 c1, .slice q1 l1 d1, .bool sz1, .slice pz1 kz1 cz1, .slice qz1 lz1 dz1, .bool false, .bool false, .bool e1] [.bool false, .slice none 0 0, .slice none 0 0] 61 47 nd9 nd3)
 generalize (w.alloc (.cells #[.bool s1, .slice p1 k1 c1, .slice q1 l1 d1, .bool sz1, .slice pz1 kz1 cz1, .slice qz1 lz1 dz1, .bool false, .bool false, .bool e1] 61)).alloc (.cells #[.bool false, .slice none 0 0, .slice none 0 0] 47) = W0 at *
 obtain ⟨m0, m1, m2, m3, m4, m5, m6, m7, m8, _⟩ := HV.out.1.cells9
 go_wp2_with fail
 refine (HM.out _ HV.out.2.2).mono ?_
 rintro e w5 ⟨s5, p5, k5, c5, q5, l5, d5, rfl, hF, hB5⟩
 have HE2 := hid (And.intro (HV.out.2.1.below hB5) (And.intro hF.out (HV.out.2.2.trans (hB5.mono HV.out.2.2.size))))
 clear hB5 hF m0 m1 m2 m3 m4 m5 m6 m7 m8
 obtain ⟨g0, g1, g2, f0, f1, f2⟩ := HE2.out.1.cells3
 go_wp2_with fail
 exact jCen_ret rfl (HE2.out.1.stores [.bool s5, .slice p5 k5 c5, .slice q5 l5 d5] rfl nd3) ⟨s5, p5, k5, c5, q5, l5, d5, rfl, hid (QNorm.stores (k := 0) (l := [.bool s5, .slice p5 k5 c5, .slice q5 l5 d5]) HE2.out.2.1 HE2.out.1 nd3), Below.stores (k := 0) (l := [.bool s5, .slice p5 k5 c5, .slice q5 l5 d5]) HE2.out.2.2 (by omega)⟩
theorem jCen_l (s1 : Bool) (p1 : Option Addr) (k1 c1 : Nat) (q1 : Option Addr) (l1 d1 : Nat) (sz1 : Bool) (pz1 : Option Addr) (kz1 cz1 : Nat) (qz1 : Option Addr) (lz1 dz1 : Nat) (e1 : Bool) (tb tm : Bool × Nat × Nat) (w : World) (HF1 : Hid (∀ W, Calls Tryz.prog 30 #[.int .i64 1] W fun e w' => ∃ s5 p5 k5 c5 q5 l5 d5, e = .returned (.agg #[.bool s5, .slice p5 k5 c5, .slice q5 l5 d5]) ∧ Hid (QNorm w' (.agg #[.bool s5, .slice p5 k5 c5, .slice q5 l5 d5]) tb) ∧ Below W.heap.size W w')) (HM : Hid (∀ W (s6 : Bool) (p6 : Option Addr) (k6 c6 : Nat) (q6 : Option Addr) (l6 d6 : Nat), Below w.heap.size w W → QNorm W (.agg #[.bool s6, .slice p6 k6 c6, .slice q6 l6 d6]) tb → Calls Tryz.prog 92 #[.agg #[.bool s1, .slice p1 k1 c1, .slice q1 l1 d1], .agg #[.bool s6, .slice p6 k6 c6, .slice q6 l6 d6]] W fun e w' => ∃ s5 p5 k5 c5 q5 l5 d5, e = .returned (.agg #[.bool s5, .slice p5 k5 c5, .slice q5 l5 d5]) ∧ Hid (QNorm w' (.agg #[.bool s5, .slice p5 k5 c5, .slice q5 l5 d5]) tm) ∧ Below W.heap.size W w')) :
  Calls Tryz.prog 35 #[.agg #[.bool s1, .slice p1 k1 c1, .slice q1 l1 d1, .bool sz1, .slice pz1 kz1 cz1, .slice qz1 lz1 dz1, .bool false, .bool true, .bool e1]] w fun e w' => ∃ s5 p5 k5 c5 q5 l5 d5, e = .returned (.agg #[.bool s5, .slice p5 k5 c5, .slice q5 l5 d5]) ∧ Hid (QNorm w' (.agg #[.bool s5, .slice p5 k5 c5, .slice q5 l5 d5]) tm) ∧ Below w.heap.size w w' := by
 go_enter Tryz.func35, Tryz.ntmps35
 go_upto_region 1 with fail
 have HV := hid (pre2 w [.bool s1, .slice p1 k1 c1, .slice q1 l1 d1, .bool sz1, .slice pz1 kz1 cz1, .slice qz1 lz1 dz1, .bool false, .bool true, .bool e1] [.bool false, .slice none 0 0, .slice none 0 0] 61 47 nd9 nd3)
 generalize (w.alloc (.cells #[.bool s1, .slice p1 k1 c1, .slice q1 l1 d1, .bool sz1, .slice pz1 kz1 cz1, .slice qz1 lz1 dz1, .bool false, .bool true, .bool e1] 61)).alloc (.cells #[.bool false, .slice none 0 0, .slice none 0 0] 47) = W0 at *
 obtain ⟨m0, m1, m2, m3, m4, m5, m6, m7, m8, _⟩ := HV.out.1.cells9
 go_upto_region 4 with fail
 have HQ := hid (QQ.i1 (cs := [.bool s1, .slice p1 k1 c1, .slice q1 l1 d1, .bool sz1, .slice pz1 kz1 cz1, .slice qz1 lz1 dz1, .bool false, .bool true, .bool e1]) HV.out.1 HV.out.2.2)
 have HS := hid (fun (w' : World) (hb : QQ w [(w.heap.size, [.bool s1, .slice p1 k1 c1, .slice q1 l1 d1, .bool sz1, .slice pz1 kz1 cz1, .slice qz1 lz1 dz1, .bool false, .bool true, .bool e1])] w') => hb.s_9)
 clear m0 m1 m2 m3 m4 m5 m6 m7 m8
 have HN : Hid (Apart [(w.heap.size, [.bool s1, .slice p1 k1 c1, .slice q1 l1 d1, .bool sz1, .slice pz1 kz1 cz1, .slice qz1 lz1 dz1, .bool false, .bool true, .bool e1])] (w.heap.size + 1)) := hid (ne1 (by omega))
 have HI : Hid (w.heap.size ≤ w.heap.size + 1) := hid (by omega)
 go_region_held3 (fun w' => w'.cell? ⟨w.heap.size, 0, none⟩ = some (.bool s1) ∧ w'.cell? ⟨w.heap.size, 1, none⟩ = some (.slice p1 k1 c1) ∧ w'.cell? ⟨w.heap.size, 2, none⟩ = some (.slice q1 l1 d1) ∧ w'.cell? ⟨w.heap.size, 3, none⟩ = some (.bool sz1) ∧ w'.cell? ⟨w.heap.size, 4, none⟩ = some (.slice pz1 kz1 cz1) ∧ w'.cell? ⟨w.heap.size, 5, none⟩ = some (.slice qz1 lz1 dz1) ∧ w'.cell? ⟨w.heap.size, 6, none⟩ = some (.bool false) ∧ w'.cell? ⟨w.heap.size, 7, none⟩ = some (.bool true) ∧ w'.cell? ⟨w.heap.size, 8, none⟩ = some (.bool e1) ∧ Hid (QQ w [(w.heap.size, [.bool s1, .slice p1 k1 c1, .slice q1 l1 d1, .bool sz1, .slice pz1 kz1 cz1, .slice qz1 lz1 dz1, .bool false, .bool true, .bool e1])] w'))
  (first | (refine HS.out _ ?_; first | (with_reducible exact HQ.out.drew) | (with_reducible assumption) | (with_reducible refine QQ.st3 ?_ HN.out HI.out; assumption)))
  (first
   | (go_at_call 30; refine (HF1.out _).mono ?_; rintro e wa ⟨s6, p6, k6, c6, q6, l6, d6, rfl, hE1, hB1⟩; have hQ1 := HQ.out.drew.call hB1; have hV1 := (HV.out.2.1.drew).below hB1)
   | (go_at_call 92; refine (HM.out _ s6 p6 k6 c6 q6 l6 d6 hQ1.bel hE1.out).mono ?_; rintro e wb ⟨s5, p5, k5, c5, q5, l5, d5, rfl, hF, hB2⟩; have hQ2 := hQ1.call hB2; have hV2 := hV1.below hB2; obtain ⟨g0, g1, g2, f0, f1, f2⟩ := hV2.cells3))
 rename_i hHeld
 clear hHeld
 have HE2 := hid (And.intro hV2 (And.intro hF.out hQ2.bel))
 clear hQ1 hQ2 hV1 hV2 hB1 hB2 hE1 hF
 go_wp2_with fail
 exact jCen_ret rfl (HE2.out.1.stores [.bool s5, .slice p5 k5 c5, .slice q5 l5 d5] rfl nd3) ⟨s5, p5, k5, c5, q5, l5, d5, rfl, hid (QNorm.stores (k := 0) (l := [.bool s5, .slice p5 k5 c5, .slice q5 l5 d5]) HE2.out.2.1 HE2.out.1 nd3), Below.stores (k := 0) (l := [.bool s5, .slice p5 k5 c5, .slice q5 l5 d5]) HE2.out.2.2 (by omega)⟩
theorem jCen_h (s1 : Bool) (p1 : Option Addr) (k1 c1 : Nat) (q1 : Option Addr) (l1 d1 : Nat) (sz1 : Bool) (pz1 : Option Addr) (kz1 cz1 : Nat) (qz1 : Option Addr) (lz1 dz1 : Nat) (e1 : Bool) (tb tm : Bool × Nat × Nat) (w : World) (HF1 : Hid (∀ W, Calls Tryz.prog 30 #[.int .i64 1] W fun e w' => ∃ s5 p5 k5 c5 q5 l5 d5, e = .returned (.agg #[.bool s5, .slice p5 k5 c5, .slice q5 l5 d5]) ∧ Hid (QNorm w' (.agg #[.bool s5, .slice p5 k5 c5, .slice q5 l5 d5]) tb) ∧ Below W.heap.size W w')) (HM : Hid (∀ W (s6 : Bool) (p6 : Option Addr) (k6 c6 : Nat) (q6 : Option Addr) (l6 d6 : Nat), Below w.heap.size w W → QNorm W (.agg #[.bool s6, .slice p6 k6 c6, .slice q6 l6 d6]) tb → Calls Tryz.prog 93 #[.agg #[.bool sz1, .slice pz1 kz1 cz1, .slice qz1 lz1 dz1], .agg #[.bool s6, .slice p6 k6 c6, .slice q6 l6 d6]] W fun e w' => ∃ s5 p5 k5 c5 q5 l5 d5, e = .returned (.agg #[.bool s5, .slice p5 k5 c5, .slice q5 l5 d5]) ∧ Hid (QNorm w' (.agg #[.bool s5, .slice p5 k5 c5, .slice q5 l5 d5]) tm) ∧ Below W.heap.size W w')) :
  Calls Tryz.prog 35 #[.agg #[.bool s1, .slice p1 k1 c1, .slice q1 l1 d1, .bool sz1, .slice pz1 kz1 cz1, .slice qz1 lz1 dz1, .bool true, .bool false, .bool e1]] w fun e w' => ∃ s5 p5 k5 c5 q5 l5 d5, e = .returned (.agg #[.bool s5, .slice p5 k5 c5, .slice q5 l5 d5]) ∧ Hid (QNorm w' (.agg #[.bool s5, .slice p5 k5 c5, .slice q5 l5 d5]) tm) ∧ Below w.heap.size w w' := by
 go_enter Tryz.func35, Tryz.ntmps35
 go_upto_region 1 with fail
 have HV := hid (pre2 w [.bool s1, .slice p1 k1 c1, .slice q1 l1 d1, .bool sz1, .slice pz1 kz1 cz1, .slice qz1 lz1 dz1, .bool true, .bool false, .bool e1] [.bool false, .slice none 0 0, .slice none 0 0] 61 47 nd9 nd3)
 generalize (w.alloc (.cells #[.bool s1, .slice p1 k1 c1, .slice q1 l1 d1, .bool sz1, .slice pz1 kz1 cz1, .slice qz1 lz1 dz1, .bool true, .bool false, .bool e1] 61)).alloc (.cells #[.bool false, .slice none 0 0, .slice none 0 0] 47) = W0 at *
 obtain ⟨m0, m1, m2, m3, m4, m5, m6, m7, m8, _⟩ := HV.out.1.cells9
 go_upto_region 6 with fail
 have HQ := hid (QQ.i1 (cs := [.bool s1, .slice p1 k1 c1, .slice q1 l1 d1, .bool sz1, .slice pz1 kz1 cz1, .slice qz1 lz1 dz1, .bool true, .bool false, .bool e1]) HV.out.1 HV.out.2.2)
 have HS := hid (fun (w' : World) (hb : QQ w [(w.heap.size, [.bool s1, .slice p1 k1 c1, .slice q1 l1 d1, .bool sz1, .slice pz1 kz1 cz1, .slice qz1 lz1 dz1, .bool true, .bool false, .bool e1])] w') => hb.s_9)
 clear m0 m1 m2 m3 m4 m5 m6 m7 m8
 have HN : Hid (Apart [(w.heap.size, [.bool s1, .slice p1 k1 c1, .slice q1 l1 d1, .bool sz1, .slice pz1 kz1 cz1, .slice qz1 lz1 dz1, .bool true, .bool false, .bool e1])] (w.heap.size + 1)) := hid (ne1 (by omega))
 have HI : Hid (w.heap.size ≤ w.heap.size + 1) := hid (by omega)
 go_region_held3 (fun w' => w'.cell? ⟨w.heap.size, 0, none⟩ = some (.bool s1) ∧ w'.cell? ⟨w.heap.size, 1, none⟩ = some (.slice p1 k1 c1) ∧ w'.cell? ⟨w.heap.size, 2, none⟩ = some (.slice q1 l1 d1) ∧ w'.cell? ⟨w.heap.size, 3, none⟩ = some (.bool sz1) ∧ w'.cell? ⟨w.heap.size, 4, none⟩ = some (.slice pz1 kz1 cz1) ∧ w'.cell? ⟨w.heap.size, 5, none⟩ = some (.slice qz1 lz1 dz1) ∧ w'.cell? ⟨w.heap.size, 6, none⟩ = some (.bool true) ∧ w'.cell? ⟨w.heap.size, 7, none⟩ = some (.bool false) ∧ w'.cell? ⟨w.heap.size, 8, none⟩ = some (.bool e1) ∧ Hid (QQ w [(w.heap.size, [.bool s1, .slice p1 k1 c1, .slice q1 l1 d1, .bool sz1, .slice pz1 kz1 cz1, .slice qz1 lz1 dz1, .bool true, .bool false, .bool e1])] w'))
  (first | (refine HS.out _ ?_; first | (with_reducible exact HQ.out.drew) | (with_reducible assumption) | (with_reducible refine QQ.st3 ?_ HN.out HI.out; assumption)))
  (first
   | (go_at_call 30; refine (HF1.out _).mono ?_; rintro e wa ⟨s6, p6, k6, c6, q6, l6, d6, rfl, hE1, hB1⟩; have hQ1 := HQ.out.drew.call hB1; have hV1 := (HV.out.2.1.drew).below hB1)
   | (go_at_call 93; refine (HM.out _ s6 p6 k6 c6 q6 l6 d6 hQ1.bel hE1.out).mono ?_; rintro e wb ⟨s5, p5, k5, c5, q5, l5, d5, rfl, hF, hB2⟩; have hQ2 := hQ1.call hB2; have hV2 := hV1.below hB2; obtain ⟨g0, g1, g2, f0, f1, f2⟩ := hV2.cells3))
 rename_i hHeld
 clear hHeld
 have HE2 := hid (And.intro hV2 (And.intro hF.out hQ2.bel))
 clear hQ1 hQ2 hV1 hV2 hB1 hB2 hE1 hF
 go_wp2_with fail
 exact jCen_ret rfl (HE2.out.1.stores [.bool s5, .slice p5 k5 c5, .slice q5 l5 d5] rfl nd3) ⟨s5, p5, k5, c5, q5, l5, d5, rfl, hid (QNorm.stores (k := 0) (l := [.bool s5, .slice p5 k5 c5, .slice q5 l5 d5]) HE2.out.2.1 HE2.out.1 nd3), Below.stores (k := 0) (l := [.bool s5, .slice p5 k5 c5, .slice q5 l5 d5]) HE2.out.2.2 (by omega)⟩
theorem jMid_err (s1 : Bool) (p1 : Option Addr) (k1 c1 : Nat) (q1 : Option Addr) (l1 d1 : Nat) (sz1 : Bool) (pz1 : Option Addr) (kz1 cz1 : Nat) (qz1 : Option Addr) (lz1 dz1 : Nat) (x1 : Bool) (y1 : Bool) (c : Int) (w : World) (hc : c ≠ 0)
  (HL : Hid (∀ W, Below w.heap.size w W → Calls Tryz.prog 33 #[.agg #[.bool s1, .slice p1 k1 c1, .slice q1 l1 d1, .bool sz1, .slice pz1 kz1 cz1, .slice qz1 lz1 dz1, .bool x1, .bool y1], .int .i64 0] W fun e w' => e = .returned (.tuple #[.agg #[.bool false, .slice none 0 0, .slice none 0 0, .bool false, .slice none 0 0, .slice none 0 0, .bool false, .bool false, .bool false], .int .i64 c]) ∧ Below W.heap.size W w')) :
  Calls Tryz.prog 11 #[.agg #[.bool s1, .slice p1 k1 c1, .slice q1 l1 d1, .bool sz1, .slice pz1 kz1 cz1, .slice qz1 lz1 dz1, .bool x1, .bool y1]] w fun e w' => e = .returned (.tuple #[.agg #[.bool false, .slice none 0 0, .slice none 0 0], .int .i64 c]) ∧ Below w.heap.size w w' := by
 have hz : (c == 0) = false := by simpa using hc
 clear hc
 go_enter Tryz.func11, Tryz.ntmps11
 go_wp2_with fail
 have HV := hid (pre2 w [.bool s1, .slice p1 k1 c1, .slice q1 l1 d1, .bool sz1, .slice pz1 kz1 cz1, .slice qz1 lz1 dz1, .bool x1, .bool y1] [.bool false, .slice none 0 0, .slice none 0 0] 26 24 nd8 nd3)
 generalize (w.alloc (.cells #[.bool s1, .slice p1 k1 c1, .slice q1 l1 d1, .bool sz1, .slice pz1 kz1 cz1, .slice qz1 lz1 dz1, .bool x1, .bool y1] 26)).alloc (.cells #[.bool false, .slice none 0 0, .slice none 0 0] 24) = W0 at *
 refine (HL.out _ HV.out.2.2).mono ?_
 rintro e w1 ⟨rfl, hB1⟩
 have HE := hid (And.intro (HV.out.2.1.below hB1) (HV.out.2.2.trans (hB1.mono HV.out.2.2.size)))
 clear hB1
 go_upto_region 3 with fail
 have HX := hid (pre1 w1 [.bool false, .slice none 0 0, .slice none 0 0, .bool false, .slice none 0 0, .slice none 0 0, .bool false, .bool false, .bool false] 61 nd9)
 have hlt : w.heap.size + 1 < w1.heap.size := HE.out.1.lt
 generalize w1.alloc (.cells #[.bool false, .slice none 0 0, .slice none 0 0, .bool false, .slice none 0 0, .slice none 0 0, .bool false, .bool false, .bool false] 61) = W1 at *
 have HE2 := hid (And.intro (HE.out.1.below HX.out.2) (HE.out.2.trans (HX.out.2.mono HE.out.2.size)))
 obtain ⟨g0, g1, g2, f0, f1, f2⟩ := HE2.out.1.cells3
 go_wp2_with fail
 exact jMid_ret rfl rfl (HE2.out.1.stores [.bool false, .slice none 0 0, .slice none 0 0] rfl nd3) ⟨rfl, Below.stores (k := 0) (l := [.bool false, .slice none 0 0, .slice none 0 0]) HE2.out.2 (by omega)⟩
theorem jMid_none (s1 : Bool) (p1 : Option Addr) (k1 c1 : Nat) (q1 : Option Addr) (l1 d1 : Nat) (sz1 : Bool) (pz1 : Option Addr) (kz1 cz1 : Nat) (qz1 : Option Addr) (lz1 dz1 : Nat) (x1 : Bool) (y1 : Bool) (r : (Bool × Nat × Nat) × (Bool × Nat × Nat) × Bool × Bool × Bool) (w : World) (he : r.2.2.2.2 = true)
  (HL : Hid (∀ W, Below w.heap.size w W → Calls Tryz.prog 33 #[.agg #[.bool s1, .slice p1 k1 c1, .slice q1 l1 d1, .bool sz1, .slice pz1 kz1 cz1, .slice qz1 lz1 dz1, .bool x1, .bool y1], .int .i64 0] W fun e w' => ∃ s2 p2 k2 c2 q2 l2 d2 sz2 pz2 kz2 cz2 qz2 lz2 dz2 x2 y2 e2, e = .returned (.tuple #[.agg #[.bool s2, .slice p2 k2 c2, .slice q2 l2 d2, .bool sz2, .slice pz2 kz2 cz2, .slice qz2 lz2 dz2, .bool x2, .bool y2, .bool e2], .int .i64 0]) ∧ Hid (JRep w' (.agg #[.bool s2, .slice p2 k2 c2, .slice q2 l2 d2, .bool sz2, .slice pz2 kz2 cz2, .slice qz2 lz2 dz2, .bool x2, .bool y2, .bool e2]) r) ∧ Below W.heap.size W w')) :
  Calls Tryz.prog 11 #[.agg #[.bool s1, .slice p1 k1 c1, .slice q1 l1 d1, .bool sz1, .slice pz1 kz1 cz1, .slice qz1 lz1 dz1, .bool x1, .bool y1]] w fun e w' => e = .returned (.tuple #[.agg #[.bool false, .slice none 0 0, .slice none 0 0], .int .i64 2]) ∧ Below w.heap.size w w' := by
 go_enter Tryz.func11, Tryz.ntmps11
 go_wp2_with fail
 have HV := hid (pre2 w [.bool s1, .slice p1 k1 c1, .slice q1 l1 d1, .bool sz1, .slice pz1 kz1 cz1, .slice qz1 lz1 dz1, .bool x1, .bool y1] [.bool false, .slice none 0 0, .slice none 0 0] 26 24 nd8 nd3)
 generalize (w.alloc (.cells #[.bool s1, .slice p1 k1 c1, .slice q1 l1 d1, .bool sz1, .slice pz1 kz1 cz1, .slice qz1 lz1 dz1, .bool x1, .bool y1] 26)).alloc (.cells #[.bool false, .slice none 0 0, .slice none 0 0] 24) = W0 at *
 refine (HL.out _ HV.out.2.2).mono ?_
 rintro e w1 ⟨s2, p2, k2, c2, q2, l2, d2, sz2, pz2, kz2, cz2, qz2, lz2, dz2, x2, y2, e2, rfl, hJ, hB1⟩
 have hee := (JRep.parts s2 p2 k2 c2 q2 l2 d2 sz2 pz2 kz2 cz2 qz2 lz2 dz2 x2 y2 e2 hJ.out).2.2.2.2
 rw [he] at hee
 subst hee
 have HE := hid (And.intro (HV.out.2.1.below hB1) (HV.out.2.2.trans (hB1.mono HV.out.2.2.size)))
 clear hB1
 go_upto_region 4 with fail
 have HX := hid (pre1 w1 [.bool s2, .slice p2 k2 c2, .slice q2 l2 d2, .bool sz2, .slice pz2 kz2 cz2, .slice qz2 lz2 dz2, .bool x2, .bool y2, .bool true] 61 nd9)
 have hlt : w.heap.size + 1 < w1.heap.size := HE.out.1.lt
 have HJ := hid (hJ.out.below HX.out.2)
 clear hJ
 generalize w1.alloc (.cells #[.bool s2, .slice p2 k2 c2, .slice q2 l2 d2, .bool sz2, .slice pz2 kz2 cz2, .slice qz2 lz2 dz2, .bool x2, .bool y2, .bool true] 61) = W1 at *
 have HE2 := hid (And.intro (HE.out.1.below HX.out.2) (HE.out.2.trans (HX.out.2.mono HE.out.2.size)))
 obtain ⟨m0, m1, m2, m3, m4, m5, m6, m7, m8, _⟩ := HX.out.1.cells9
 obtain ⟨g0, g1, g2, f0, f1, f2⟩ := HE2.out.1.cells3
 go_wp2_with fail
 exact jMid_ret rfl rfl (HE2.out.1.stores [.bool false, .slice none 0 0, .slice none 0 0] rfl nd3) ⟨rfl, Below.stores (k := 0) (l := [.bool false, .slice none 0 0, .slice none 0 0]) HE2.out.2 (by omega)⟩
theorem jMid_ok (s1 : Bool) (p1 : Option Addr) (k1 c1 : Nat) (q1 : Option Addr) (l1 d1 : Nat) (sz1 : Bool) (pz1 : Option Addr) (kz1 cz1 : Nat) (qz1 : Option Addr) (lz1 dz1 : Nat) (x1 : Bool) (y1 : Bool) (r : (Bool × Nat × Nat) × (Bool × Nat × Nat) × Bool × Bool × Bool) (t rt : Bool × Nat × Nat) (c : Int) (w : World) (he : r.2.2.2.2 = false)
  (HL : Hid (∀ W, Below w.heap.size w W → Calls Tryz.prog 33 #[.agg #[.bool s1, .slice p1 k1 c1, .slice q1 l1 d1, .bool sz1, .slice pz1 kz1 cz1, .slice qz1 lz1 dz1, .bool x1, .bool y1], .int .i64 0] W fun e w' => ∃ s2 p2 k2 c2 q2 l2 d2 sz2 pz2 kz2 cz2 qz2 lz2 dz2 x2 y2 e2, e = .returned (.tuple #[.agg #[.bool s2, .slice p2 k2 c2, .slice q2 l2 d2, .bool sz2, .slice pz2 kz2 cz2, .slice qz2 lz2 dz2, .bool x2, .bool y2, .bool e2], .int .i64 0]) ∧ Hid (JRep w' (.agg #[.bool s2, .slice p2 k2 c2, .slice q2 l2 d2, .bool sz2, .slice pz2 kz2 cz2, .slice qz2 lz2 dz2, .bool x2, .bool y2, .bool e2]) r) ∧ Below W.heap.size W w'))
  (HC : Hid (∀ W (s2 : Bool) (p2 : Option Addr) (k2 c2 : Nat) (q2 : Option Addr) (l2 d2 : Nat) (sz2 : Bool) (pz2 : Option Addr) (kz2 cz2 : Nat) (qz2 : Option Addr) (lz2 dz2 : Nat) (x2 : Bool) (y2 : Bool) (e2 : Bool), Below w.heap.size w W → JRep W (.agg #[.bool s2, .slice p2 k2 c2, .slice q2 l2 d2, .bool sz2, .slice pz2 kz2 cz2, .slice qz2 lz2 dz2, .bool x2, .bool y2, .bool e2]) r → Calls Tryz.prog 35 #[.agg #[.bool s2, .slice p2 k2 c2, .slice q2 l2 d2, .bool sz2, .slice pz2 kz2 cz2, .slice qz2 lz2 dz2, .bool x2, .bool y2, .bool e2]] W fun e w' => ∃ s5 p5 k5 c5 q5 l5 d5, e = .returned (.agg #[.bool s5, .slice p5 k5 c5, .slice q5 l5 d5]) ∧ Hid (QNorm w' (.agg #[.bool s5, .slice p5 k5 c5, .slice q5 l5 d5]) t) ∧ Below W.heap.size W w'))
  (HD : Hid (∀ W (s5 : Bool) (p5 : Option Addr) (k5 c5 : Nat) (q5 : Option Addr) (l5 d5 : Nat), QNorm W (.agg #[.bool s5, .slice p5 k5 c5, .slice q5 l5 d5]) t → Calls Tryz.prog 34 #[.agg #[.bool s5, .slice p5 k5 c5, .slice q5 l5 d5]] W fun e w' => Below W.heap.size W w' ∧ URF w' e c rt)) :
  Calls Tryz.prog 11 #[.agg #[.bool s1, .slice p1 k1 c1, .slice q1 l1 d1, .bool sz1, .slice pz1 kz1 cz1, .slice qz1 lz1 dz1, .bool x1, .bool y1]] w fun e w' => Below w.heap.size w w' ∧ URF w' e c rt := by
 go_enter Tryz.func11, Tryz.ntmps11
 go_wp2_with fail
 have HV := hid (pre2 w [.bool s1, .slice p1 k1 c1, .slice q1 l1 d1, .bool sz1, .slice pz1 kz1 cz1, .slice qz1 lz1 dz1, .bool x1, .bool y1] [.bool false, .slice none 0 0, .slice none 0 0] 26 24 nd8 nd3)
 generalize (w.alloc (.cells #[.bool s1, .slice p1 k1 c1, .slice q1 l1 d1, .bool sz1, .slice pz1 kz1 cz1, .slice qz1 lz1 dz1, .bool x1, .bool y1] 26)).alloc (.cells #[.bool false, .slice none 0 0, .slice none 0 0] 24) = W0 at *
 refine (HL.out _ HV.out.2.2).mono ?_
 rintro e w1 ⟨s2, p2, k2, c2, q2, l2, d2, sz2, pz2, kz2, cz2, qz2, lz2, dz2, x2, y2, e2, rfl, hJ, hB1⟩
 have hee := (JRep.parts s2 p2 k2 c2 q2 l2 d2 sz2 pz2 kz2 cz2 qz2 lz2 dz2 x2 y2 e2 hJ.out).2.2.2.2
 rw [he] at hee
 subst hee
 have HE := hid (And.intro (HV.out.2.1.below hB1) (HV.out.2.2.trans (hB1.mono HV.out.2.2.size)))
 clear hB1
 go_upto_region 4 with fail
 have HX := hid (pre1 w1 [.bool s2, .slice p2 k2 c2, .slice q2 l2 d2, .bool sz2, .slice pz2 kz2 cz2, .slice qz2 lz2 dz2, .bool x2, .bool y2, .bool false] 61 nd9)
 have hlt : w.heap.size + 1 < w1.heap.size := HE.out.1.lt
 have HJ := hid (hJ.out.below HX.out.2)
 clear hJ
 generalize w1.alloc (.cells #[.bool s2, .slice p2 k2 c2, .slice q2 l2 d2, .bool sz2, .slice pz2 kz2 cz2, .slice qz2 lz2 dz2, .bool x2, .bool y2, .bool false] 61) = W1 at *
 have HE2 := hid (And.intro (HE.out.1.below HX.out.2) (HE.out.2.trans (HX.out.2.mono HE.out.2.size)))
 obtain ⟨m0, m1, m2, m3, m4, m5, m6, m7, m8, _⟩ := HX.out.1.cells9
 go_wp2_with fail
 refine (HC.out _ s2 p2 k2 c2 q2 l2 d2 sz2 pz2 kz2 cz2 qz2 lz2 dz2 x2 y2 false HE2.out.2 HJ.out).mono ?_
 rintro e w2 ⟨s5, p5, k5, c5, q5, l5, d5, rfl, hF, hB2⟩
 have HE3 := hid (And.intro (HE2.out.1.below hB2) (HE2.out.2.trans (hB2.mono HE2.out.2.size)))
 clear hB2 m0 m1 m2 m3 m4 m5 m6 m7 m8
 go_wp2_with fail
 refine (HD.out _ s5 p5 k5 c5 q5 l5 d5 hF.out).mono ?_
 rintro e w3 ⟨hB3, s6, p6, k6, c6, q6, l6, d6, rfl, hG⟩
 have HE4 := hid (And.intro (HE3.out.1.below hB3) (And.intro hG.out (HE3.out.2.trans (hB3.mono HE3.out.2.size))))
 clear hB3 hG hF
 obtain ⟨g0, g1, g2, f0, f1, f2⟩ := HE4.out.1.cells3
 go_wp2_with fail
 exact jMid_ret rfl rfl (HE4.out.1.stores [.bool s6, .slice p6 k6 c6, .slice q6 l6 d6] rfl nd3) ⟨Below.stores (k := 0) (l := [.bool s6, .slice p6 k6 c6, .slice q6 l6 d6]) HE4.out.2.2 (by omega), s6, p6, k6, c6, q6, l6, d6, rfl, hid (FNorm.stores (k := 0) (l := [.bool s6, .slice p6 k6 c6, .slice q6 l6 d6]) HE4.out.2.1 HE4.out.1 nd3)⟩
end Go.Proofs.YtheojajaefjecaaGreatDoor
