/- The middle of a set, by the program. -/
import Derived.Test.YtheojajaefjecaaGreatDoorAskR
import Derived.Test.YtheojajaefjecaaGreatDoorMidM
import Derived.Test.YtheojajaefjecaaGreatDoorCanI
set_option maxHeartbeats 2000000
set_option maxRecDepth 100000
namespace Go.Proofs.YtheojajaefjecaaGreatDoor
open Go.RowKit Dg
theorem smid_ret {W : World} {B : Nat} {a0 a1 a2 : Value} {tm : Array Value} {R : Ending → World → Prop} (h2 : tm[2]?.getD undef = .pointer (some ⟨B, 0, none⟩)) (hV : Box W B #[a0, a1, a2]) (hR : R (.returned (.agg #[a0, a1, a2])) W) :
  bodyPost Tryz.prog Tryz.f32 R .ret { tmps := tm, defers := [] } W := by
 obtain ⟨g0, g1, g2, _⟩ := hV.cells3
 exact bodyPost_ret (v := .agg #[a0, a1, a2]) (by simp [results, Tryz.results32, go_sem, h2, g0, g1, g2]) rfl hR
theorem smid_none (i1 : Int) (s1 : Bool) (p1 : Option Addr) (k1 c1 : Nat) (q1 : Option Addr) (l1 d1 : Nat) (j1 : Int) (sz1 : Bool) (pz1 : Option Addr) (kz1 cz1 : Nat) (qz1 : Option Addr) (lz1 dz1 : Nat) (e1 : Bool) (w : World) (he : e1 = true) :
  Calls Tryz.prog 32 #[.agg #[.int .i64 i1, .bool s1, .slice p1 k1 c1, .slice q1 l1 d1, .int .i64 j1, .bool sz1, .slice pz1 kz1 cz1, .slice qz1 lz1 dz1, .bool e1]] w fun e w' => e = pan 2 ∧ Below w.heap.size w w' := by
 subst he
 go_enter Tryz.func32, Tryz.ntmps32
 go_upto_region 1 with fail
 have HV := hid (pre2 w [.int .i64 i1, .bool s1, .slice p1 k1 c1, .slice q1 l1 d1, .int .i64 j1, .bool sz1, .slice pz1 kz1 cz1, .slice qz1 lz1 dz1, .bool true] [.bool false, .slice none 0 0, .slice none 0 0] 59 24 nd9 nd3)
 generalize (w.alloc (.cells #[.int .i64 i1, .bool s1, .slice p1 k1 c1, .slice q1 l1 d1, .int .i64 j1, .bool sz1, .slice pz1 kz1 cz1, .slice qz1 lz1 dz1, .bool true] 59)).alloc (.cells #[.bool false, .slice none 0 0, .slice none 0 0] 24) = W0 at *
 obtain ⟨m0, m1, m2, m3, m4, m5, m6, m7, m8, _⟩ := HV.out.1.cells9
 go_wp2_with fail
 refine (unless_no 2 W0).mono ?_
 rintro e w1 ⟨rfl, rfl⟩
 exact ⟨rfl, rfl, HV.out.2.2⟩
theorem smid_b (i1 : Int) (s1 : Bool) (p1 : Option Addr) (k1 c1 : Nat) (q1 : Option Addr) (l1 d1 : Nat) (j1 : Int) (sz1 : Bool) (pz1 : Option Addr) (kz1 cz1 : Nat) (qz1 : Option Addr) (lz1 dz1 : Nat) (e1 : Bool) (ta tb tm : Bool × Nat × Nat) (w : World) (he : e1 = false) (HBD : Hid (∀ W, Below w.heap.size w W → Calls Tryz.prog 81 #[.agg #[.int .i64 i1, .bool s1, .slice p1 k1 c1, .slice q1 l1 d1, .int .i64 j1, .bool sz1, .slice pz1 kz1 cz1, .slice qz1 lz1 dz1, .bool e1]] W fun e w' => e = .returned (.bool true) ∧ Below W.heap.size W w')) (HL : Hid (∀ W, Below w.heap.size w W → Calls Tryz.prog 84 #[.agg #[.int .i64 i1, .bool s1, .slice p1 k1 c1, .slice q1 l1 d1]] W fun e w' => ∃ s4 p4 k4 c4 q4 l4 d4, e = .returned (.agg #[.bool s4, .slice p4 k4 c4, .slice q4 l4 d4]) ∧ Hid (FNorm w' (.agg #[.bool s4, .slice p4 k4 c4, .slice q4 l4 d4]) ta) ∧ Below W.heap.size W w')) (HH : Hid (∀ W, Below w.heap.size w W → Calls Tryz.prog 84 #[.agg #[.int .i64 j1, .bool sz1, .slice pz1 kz1 cz1, .slice qz1 lz1 dz1]] W fun e w' => ∃ s4 p4 k4 c4 q4 l4 d4, e = .returned (.agg #[.bool s4, .slice p4 k4 c4, .slice q4 l4 d4]) ∧ Hid (FNorm w' (.agg #[.bool s4, .slice p4 k4 c4, .slice q4 l4 d4]) tb) ∧ Below W.heap.size W w')) (HM : Hid (∀ W (s4 : Bool) (p4 : Option Addr) (k4 c4 : Nat) (q4 : Option Addr) (l4 d4 : Nat) (s5 : Bool) (p5 : Option Addr) (k5 c5 : Nat) (q5 : Option Addr) (l5 d5 : Nat), Below w.heap.size w W → FNorm W (.agg #[.bool s4, .slice p4 k4 c4, .slice q4 l4 d4]) ta → FNorm W (.agg #[.bool s5, .slice p5 k5 c5, .slice q5 l5 d5]) tb → Calls Tryz.prog 83 #[.agg #[.bool s4, .slice p4 k4 c4, .slice q4 l4 d4], .agg #[.bool s5, .slice p5 k5 c5, .slice q5 l5 d5]] W fun e w' => ∃ s6 p6 k6 c6 q6 l6 d6, e = .returned (.tuple #[.agg #[.bool s6, .slice p6 k6 c6, .slice q6 l6 d6], .int .i64 0]) ∧ Hid (FNorm w' (.agg #[.bool s6, .slice p6 k6 c6, .slice q6 l6 d6]) tm) ∧ Below W.heap.size W w')) :
  Calls Tryz.prog 32 #[.agg #[.int .i64 i1, .bool s1, .slice p1 k1 c1, .slice q1 l1 d1, .int .i64 j1, .bool sz1, .slice pz1 kz1 cz1, .slice qz1 lz1 dz1, .bool e1]] w fun e w' => ∃ s6 p6 k6 c6 q6 l6 d6, e = .returned (.agg #[.bool s6, .slice p6 k6 c6, .slice q6 l6 d6]) ∧ Hid (FNorm w' (.agg #[.bool s6, .slice p6 k6 c6, .slice q6 l6 d6]) tm) ∧ Below w.heap.size w w' := by
 subst he
 go_enter Tryz.func32, Tryz.ntmps32
 go_upto_region 1 with fail
 have HV := hid (pre2 w [.int .i64 i1, .bool s1, .slice p1 k1 c1, .slice q1 l1 d1, .int .i64 j1, .bool sz1, .slice pz1 kz1 cz1, .slice qz1 lz1 dz1, .bool false] [.bool false, .slice none 0 0, .slice none 0 0] 59 24 nd9 nd3)
 generalize (w.alloc (.cells #[.int .i64 i1, .bool s1, .slice p1 k1 c1, .slice q1 l1 d1, .int .i64 j1, .bool sz1, .slice pz1 kz1 cz1, .slice qz1 lz1 dz1, .bool false] 59)).alloc (.cells #[.bool false, .slice none 0 0, .slice none 0 0] 24) = W0 at *
 obtain ⟨m0, m1, m2, m3, m4, m5, m6, m7, m8, _⟩ := HV.out.1.cells9
 go_wp2_with fail
 refine (unless_ok 2 W0).mono ?_
 rintro e w1 ⟨rfl, rfl⟩
 go_wp2_with fail
 refine (HBD.out _ HV.out.2.2).mono ?_
 rintro e w2 ⟨rfl, hB2⟩
 have HE := hid (And.intro (HV.out.1.below hB2) (And.intro (HV.out.2.1.below hB2) (HV.out.2.2.trans (hB2.mono HV.out.2.2.size))))
 clear hB2 m0 m1 m2 m3 m4 m5 m6 m7 m8
 go_upto_region 3 with fail
 have HQ := hid (QQ.i1 (cs := [.int .i64 i1, .bool s1, .slice p1 k1 c1, .slice q1 l1 d1, .int .i64 j1, .bool sz1, .slice pz1 kz1 cz1, .slice qz1 lz1 dz1, .bool false]) HE.out.1 HE.out.2.2)
 have HS := hid (fun (w' : World) (hb : QQ w [(w.heap.size, [.int .i64 i1, .bool s1, .slice p1 k1 c1, .slice q1 l1 d1, .int .i64 j1, .bool sz1, .slice pz1 kz1 cz1, .slice qz1 lz1 dz1, .bool false])] w') => hb.s_9)
 have HN : Hid (Apart [(w.heap.size, [.int .i64 i1, .bool s1, .slice p1 k1 c1, .slice q1 l1 d1, .int .i64 j1, .bool sz1, .slice pz1 kz1 cz1, .slice qz1 lz1 dz1, .bool false])] (w.heap.size + 1)) := hid (ne1 (by omega))
 have HI : Hid (w.heap.size ≤ w.heap.size + 1) := hid (by omega)
 go_region_held3 (fun w' => w'.cell? ⟨w.heap.size, 0, none⟩ = some (.int .i64 i1) ∧ w'.cell? ⟨w.heap.size, 1, none⟩ = some (.bool s1) ∧ w'.cell? ⟨w.heap.size, 2, none⟩ = some (.slice p1 k1 c1) ∧ w'.cell? ⟨w.heap.size, 3, none⟩ = some (.slice q1 l1 d1) ∧ w'.cell? ⟨w.heap.size, 4, none⟩ = some (.int .i64 j1) ∧ w'.cell? ⟨w.heap.size, 5, none⟩ = some (.bool sz1) ∧ w'.cell? ⟨w.heap.size, 6, none⟩ = some (.slice pz1 kz1 cz1) ∧ w'.cell? ⟨w.heap.size, 7, none⟩ = some (.slice qz1 lz1 dz1) ∧ w'.cell? ⟨w.heap.size, 8, none⟩ = some (.bool false) ∧ Hid (QQ w [(w.heap.size, [.int .i64 i1, .bool s1, .slice p1 k1 c1, .slice q1 l1 d1, .int .i64 j1, .bool sz1, .slice pz1 kz1 cz1, .slice qz1 lz1 dz1, .bool false])] w'))
  (first | (refine HS.out _ ?_; first | (with_reducible exact HQ.out.drew) | (with_reducible assumption) | (with_reducible refine QQ.st3 ?_ HN.out HI.out; assumption)))
  (first
   | (go_at_call_of 84 p1; refine (HL.out _ HQ.out.drew.bel).mono ?_; rintro e wa ⟨s4, p4, k4, c4, q4, l4, d4, rfl, hE1, hB1⟩; have hQ1 := HQ.out.drew.call hB1; have hV1 := (HE.out.2.1.drew).below hB1)
   | (go_at_call_of 84 pz1; refine (HH.out _ hQ1.bel).mono ?_; rintro e wb ⟨s5, p5, k5, c5, q5, l5, d5, rfl, hE2, hB2⟩; have hQ2 := hQ1.call hB2; have hV2 := hV1.below hB2)
   | (go_at_call 83; refine (HM.out _ s4 p4 k4 c4 q4 l4 d4 s5 p5 k5 c5 q5 l5 d5 hQ2.bel (hE1.out.below hB2) hE2.out).mono ?_; rintro e wc ⟨s6, p6, k6, c6, q6, l6, d6, rfl, hF, hB3⟩; have hQ3 := hQ2.call hB3; have hV3 := hV2.below hB3)
   | (go_at_call 82; refine (mustR_ok s6 p6 k6 c6 q6 l6 d6 _).mono ?_; rintro e wd ⟨rfl, hB4⟩; have hQ4 := hQ3.call hB4; have hV4 := hV3.below hB4; obtain ⟨g0, g1, g2, f0, f1, f2⟩ := hV4.cells3))
 rename_i hHeld
 clear hHeld
 have HE2 := hid (And.intro hV4 (And.intro (hF.out.below hB4) hQ4.bel))
 clear hQ1 hQ2 hQ3 hQ4 hV1 hV2 hV3 hV4 hB1 hB2 hB3 hB4 hE1 hE2 hF
 go_wp2_with fail
 exact smid_ret rfl (HE2.out.1.stores [.bool s6, .slice p6 k6 c6, .slice q6 l6 d6] rfl nd3) ⟨s6, p6, k6, c6, q6, l6, d6, rfl, hid (FNorm.stores (k := 0) (l := [.bool s6, .slice p6 k6 c6, .slice q6 l6 d6]) HE2.out.2.1 HE2.out.1 nd3), Below.stores (k := 0) (l := [.bool s6, .slice p6 k6 c6, .slice q6 l6 d6]) HE2.out.2.2 (by omega)⟩
theorem smid_b_err (i1 : Int) (s1 : Bool) (p1 : Option Addr) (k1 c1 : Nat) (q1 : Option Addr) (l1 d1 : Nat) (j1 : Int) (sz1 : Bool) (pz1 : Option Addr) (kz1 cz1 : Nat) (qz1 : Option Addr) (lz1 dz1 : Nat) (e1 : Bool) (ta tb tm : Bool × Nat × Nat) (c : Int) (w : World) (he : e1 = false) (HBD : Hid (∀ W, Below w.heap.size w W → Calls Tryz.prog 81 #[.agg #[.int .i64 i1, .bool s1, .slice p1 k1 c1, .slice q1 l1 d1, .int .i64 j1, .bool sz1, .slice pz1 kz1 cz1, .slice qz1 lz1 dz1, .bool e1]] W fun e w' => e = .returned (.bool true) ∧ Below W.heap.size W w')) (HL : Hid (∀ W, Below w.heap.size w W → Calls Tryz.prog 84 #[.agg #[.int .i64 i1, .bool s1, .slice p1 k1 c1, .slice q1 l1 d1]] W fun e w' => ∃ s4 p4 k4 c4 q4 l4 d4, e = .returned (.agg #[.bool s4, .slice p4 k4 c4, .slice q4 l4 d4]) ∧ Hid (FNorm w' (.agg #[.bool s4, .slice p4 k4 c4, .slice q4 l4 d4]) ta) ∧ Below W.heap.size W w')) (HH : Hid (∀ W, Below w.heap.size w W → Calls Tryz.prog 84 #[.agg #[.int .i64 j1, .bool sz1, .slice pz1 kz1 cz1, .slice qz1 lz1 dz1]] W fun e w' => ∃ s4 p4 k4 c4 q4 l4 d4, e = .returned (.agg #[.bool s4, .slice p4 k4 c4, .slice q4 l4 d4]) ∧ Hid (FNorm w' (.agg #[.bool s4, .slice p4 k4 c4, .slice q4 l4 d4]) tb) ∧ Below W.heap.size W w')) (HM : Hid (∀ W (s4 : Bool) (p4 : Option Addr) (k4 c4 : Nat) (q4 : Option Addr) (l4 d4 : Nat) (s5 : Bool) (p5 : Option Addr) (k5 c5 : Nat) (q5 : Option Addr) (l5 d5 : Nat), Below w.heap.size w W → FNorm W (.agg #[.bool s4, .slice p4 k4 c4, .slice q4 l4 d4]) ta → FNorm W (.agg #[.bool s5, .slice p5 k5 c5, .slice q5 l5 d5]) tb → Calls Tryz.prog 83 #[.agg #[.bool s4, .slice p4 k4 c4, .slice q4 l4 d4], .agg #[.bool s5, .slice p5 k5 c5, .slice q5 l5 d5]] W fun e w' => ∃ s6 p6 k6 c6 q6 l6 d6, e = .returned (.tuple #[.agg #[.bool s6, .slice p6 k6 c6, .slice q6 l6 d6], .int .i64 c]) ∧ Hid (FNorm w' (.agg #[.bool s6, .slice p6 k6 c6, .slice q6 l6 d6]) tm) ∧ Below W.heap.size W w')) (hc : c ≠ 0) :
  Calls Tryz.prog 32 #[.agg #[.int .i64 i1, .bool s1, .slice p1 k1 c1, .slice q1 l1 d1, .int .i64 j1, .bool sz1, .slice pz1 kz1 cz1, .slice qz1 lz1 dz1, .bool e1]] w fun e w' => e = pan c ∧ Below w.heap.size w w' := by
 subst he
 go_enter Tryz.func32, Tryz.ntmps32
 go_upto_region 1 with fail
 have HV := hid (pre2 w [.int .i64 i1, .bool s1, .slice p1 k1 c1, .slice q1 l1 d1, .int .i64 j1, .bool sz1, .slice pz1 kz1 cz1, .slice qz1 lz1 dz1, .bool false] [.bool false, .slice none 0 0, .slice none 0 0] 59 24 nd9 nd3)
 generalize (w.alloc (.cells #[.int .i64 i1, .bool s1, .slice p1 k1 c1, .slice q1 l1 d1, .int .i64 j1, .bool sz1, .slice pz1 kz1 cz1, .slice qz1 lz1 dz1, .bool false] 59)).alloc (.cells #[.bool false, .slice none 0 0, .slice none 0 0] 24) = W0 at *
 obtain ⟨m0, m1, m2, m3, m4, m5, m6, m7, m8, _⟩ := HV.out.1.cells9
 go_wp2_with fail
 refine (unless_ok 2 W0).mono ?_
 rintro e w1 ⟨rfl, rfl⟩
 go_wp2_with fail
 refine (HBD.out _ HV.out.2.2).mono ?_
 rintro e w2 ⟨rfl, hB2⟩
 have HE := hid (And.intro (HV.out.1.below hB2) (And.intro (HV.out.2.1.below hB2) (HV.out.2.2.trans (hB2.mono HV.out.2.2.size))))
 clear hB2 m0 m1 m2 m3 m4 m5 m6 m7 m8
 go_upto_region 3 with fail
 have HQ := hid (QQ.i1 (cs := [.int .i64 i1, .bool s1, .slice p1 k1 c1, .slice q1 l1 d1, .int .i64 j1, .bool sz1, .slice pz1 kz1 cz1, .slice qz1 lz1 dz1, .bool false]) HE.out.1 HE.out.2.2)
 have HS := hid (fun (w' : World) (hb : QQ w [(w.heap.size, [.int .i64 i1, .bool s1, .slice p1 k1 c1, .slice q1 l1 d1, .int .i64 j1, .bool sz1, .slice pz1 kz1 cz1, .slice qz1 lz1 dz1, .bool false])] w') => hb.s_9)
 refine wp_region_held_drew (S := (fun w' => w'.cell? ⟨w.heap.size, 0, none⟩ = some (.int .i64 i1) ∧ w'.cell? ⟨w.heap.size, 1, none⟩ = some (.bool s1) ∧ w'.cell? ⟨w.heap.size, 2, none⟩ = some (.slice p1 k1 c1) ∧ w'.cell? ⟨w.heap.size, 3, none⟩ = some (.slice q1 l1 d1) ∧ w'.cell? ⟨w.heap.size, 4, none⟩ = some (.int .i64 j1) ∧ w'.cell? ⟨w.heap.size, 5, none⟩ = some (.bool sz1) ∧ w'.cell? ⟨w.heap.size, 6, none⟩ = some (.slice pz1 kz1 cz1) ∧ w'.cell? ⟨w.heap.size, 7, none⟩ = some (.slice qz1 lz1 dz1) ∧ w'.cell? ⟨w.heap.size, 8, none⟩ = some (.bool false) ∧ Hid (QQ w [(w.heap.size, [.int .i64 i1, .bool s1, .slice p1 k1 c1, .slice q1 l1 d1, .int .i64 j1, .bool sz1, .slice pz1 kz1 cz1, .slice qz1 lz1 dz1, .bool false])] w'))) (by kernel_rfl) (HS.out _ HQ.out.drew) (fun hHeld => ?_)
 refine wpAnyH_take (i := 0) (v := ?vv0) rfl (by kernel_rfl) (by kernel_rfl) (by kernel_rfl) (fun _ _ _ h => h) (Or.inl ⟨by rfl, ?hy0⟩) (by assumption) ?_
 case hy0 => (intro w' hSw; (try dsimp only at hSw); go_simp; first | done | with_reducible rfl)
 simp only [Act.put]
 refine wpAnyH_take (i := 1) (v := ?vv1) rfl (by kernel_rfl) (by kernel_rfl) (by kernel_rfl) (fun _ _ _ h => h) (Or.inl ⟨by rfl, ?hy1⟩) (by assumption) ?_
 case hy1 => (intro w' hSw; (try dsimp only at hSw); go_simp; first | done | with_reducible rfl)
 simp only [Act.put]
 refine wpAnyH_take (i := 3) (v := ?vv3) rfl (by kernel_rfl) (by kernel_rfl) (by kernel_rfl) (fun _ _ _ h => h) (Or.inl ⟨by rfl, ?hy3⟩) (by assumption) ?_
 case hy3 => (intro w' hSw; (try dsimp only at hSw); go_simp; first | done | with_reducible rfl)
 simp only [Act.put]
 refine wpAnyH_take (i := 4) (v := ?vv4) rfl (by kernel_rfl) (by kernel_rfl) (by kernel_rfl) (fun _ _ _ h => h) (Or.inl ⟨by rfl, ?hy4⟩) (by assumption) ?_
 case hy4 => (intro w' hSw; (try dsimp only at hSw); go_simp; first | done | with_reducible rfl)
 simp only [Act.put]
 refine wpAnyH_ready (rs := [2]) (by kernel_rfl) (by simp) ?_
 refine AllReadyH.cons rfl (fun K hK => ?_) AllReadyH.nil
 go_simp
 refine (HL.out _ HQ.out.drew.bel).mono ?_
 rintro e wa ⟨s4, p4, k4, c4, q4, l4, d4, rfl, hE1, hB1⟩
 have hQ1 := HQ.out.drew.call hB1
 go_wp2_with fail
 refine hK.out _ _ ?_ (fun hHeld => ?_)
 ·exact HS.out _ (hQ1)
 clear hK K
 try simp only [Act.put, List.setIfInBounds_toArray, List.set_cons_zero, List.set_cons_succ]
 refine wpAnyH_ready (rs := [5]) (by kernel_rfl) (by simp) ?_
 refine AllReadyH.cons rfl (fun K hK => ?_) AllReadyH.nil
 go_simp
 refine (HH.out _ hQ1.bel).mono ?_
 rintro e wb ⟨s5, p5, k5, c5, q5, l5, d5, rfl, hE2, hB2⟩
 have hQ2 := hQ1.call hB2
 go_wp2_with fail
 refine hK.out _ _ ?_ (fun hHeld => ?_)
 ·exact HS.out _ (hQ2)
 clear hK K
 try simp only [Act.put, List.setIfInBounds_toArray, List.set_cons_zero, List.set_cons_succ]
 refine wpAnyH_ready (rs := [6]) (by kernel_rfl) (by simp) ?_
 refine AllReadyH.cons rfl (fun K hK => ?_) AllReadyH.nil
 go_simp
 refine (HM.out _ s4 p4 k4 c4 q4 l4 d4 s5 p5 k5 c5 q5 l5 d5 hQ2.bel (hE1.out.below hB2) hE2.out).mono ?_
 rintro e wc ⟨s6, p6, k6, c6, q6, l6, d6, rfl, hF, hB3⟩
 have hQ3 := hQ2.call hB3
 go_wp2_with fail
 refine hK.out _ _ ?_ (fun hHeld => ?_)
 ·exact HS.out _ (hQ3)
 clear hK K
 try simp only [Act.put, List.setIfInBounds_toArray, List.set_cons_zero, List.set_cons_succ]
 refine wpAnyH_take (i := 7) (v := ?vv7) rfl (by kernel_rfl) (by kernel_rfl) (by kernel_rfl) (fun _ _ _ h => h) (Or.inl ⟨by rfl, ?hy7⟩) (by assumption) ?_
 case hy7 => (intro w' hSw; (try dsimp only at hSw); go_simp; first | done | with_reducible rfl)
 simp only [Act.put]
 refine wpAnyH_take (i := 8) (v := ?vv8) rfl (by kernel_rfl) (by kernel_rfl) (by kernel_rfl) (fun _ _ _ h => h) (Or.inl ⟨by rfl, ?hy8⟩) (by assumption) ?_
 case hy8 => (intro w' hSw; (try dsimp only at hSw); go_simp; first | done | with_reducible rfl)
 simp only [Act.put]
 refine wpAnyH_ready (rs := [9]) (by kernel_rfl) (by simp) ?_
 refine AllReadyH.cons rfl (fun K hK => ?_) AllReadyH.nil
 go_simp
 refine (mustR_err s6 p6 k6 c6 q6 l6 d6 c hc _).mono ?_
 rintro e wd ⟨rfl, hB4⟩
 exact ⟨rfl, rfl, (hQ3.call hB4).bel⟩
theorem smid_l (i1 : Int) (s1 : Bool) (p1 : Option Addr) (k1 c1 : Nat) (q1 : Option Addr) (l1 d1 : Nat) (j1 : Int) (sz1 : Bool) (pz1 : Option Addr) (kz1 cz1 : Nat) (qz1 : Option Addr) (lz1 dz1 : Nat) (e1 : Bool) (ta tb tm : Bool × Nat × Nat) (w : World) (he : e1 = false) (HBD : Hid (∀ W, Below w.heap.size w W → Calls Tryz.prog 81 #[.agg #[.int .i64 i1, .bool s1, .slice p1 k1 c1, .slice q1 l1 d1, .int .i64 j1, .bool sz1, .slice pz1 kz1 cz1, .slice qz1 lz1 dz1, .bool e1]] W fun e w' => e = .returned (.bool false) ∧ Below W.heap.size W w')) (hi : (i1 != 0) = false) (HL : Hid (∀ W, Below w.heap.size w W → Calls Tryz.prog 84 #[.agg #[.int .i64 i1, .bool s1, .slice p1 k1 c1, .slice q1 l1 d1]] W fun e w' => ∃ s4 p4 k4 c4 q4 l4 d4, e = .returned (.agg #[.bool s4, .slice p4 k4 c4, .slice q4 l4 d4]) ∧ Hid (FNorm w' (.agg #[.bool s4, .slice p4 k4 c4, .slice q4 l4 d4]) ta) ∧ Below W.heap.size W w')) (HF1 : Hid (∀ W, Calls Tryz.prog 87 #[.int .i64 1] W fun e w' => ∃ s5 p5 k5 c5 q5 l5 d5, e = .returned (.agg #[.bool s5, .slice p5 k5 c5, .slice q5 l5 d5]) ∧ Hid (FNorm w' (.agg #[.bool s5, .slice p5 k5 c5, .slice q5 l5 d5]) tb) ∧ Below W.heap.size W w')) (HM : Hid (∀ W (s4 : Bool) (p4 : Option Addr) (k4 c4 : Nat) (q4 : Option Addr) (l4 d4 : Nat) (s5 : Bool) (p5 : Option Addr) (k5 c5 : Nat) (q5 : Option Addr) (l5 d5 : Nat), Below w.heap.size w W → FNorm W (.agg #[.bool s4, .slice p4 k4 c4, .slice q4 l4 d4]) ta → FNorm W (.agg #[.bool s5, .slice p5 k5 c5, .slice q5 l5 d5]) tb → Calls Tryz.prog 86 #[.agg #[.bool s4, .slice p4 k4 c4, .slice q4 l4 d4], .agg #[.bool s5, .slice p5 k5 c5, .slice q5 l5 d5]] W fun e w' => ∃ s6 p6 k6 c6 q6 l6 d6, e = .returned (.tuple #[.agg #[.bool s6, .slice p6 k6 c6, .slice q6 l6 d6], .int .i64 0]) ∧ Hid (FNorm w' (.agg #[.bool s6, .slice p6 k6 c6, .slice q6 l6 d6]) tm) ∧ Below W.heap.size W w')) :
  Calls Tryz.prog 32 #[.agg #[.int .i64 i1, .bool s1, .slice p1 k1 c1, .slice q1 l1 d1, .int .i64 j1, .bool sz1, .slice pz1 kz1 cz1, .slice qz1 lz1 dz1, .bool e1]] w fun e w' => ∃ s6 p6 k6 c6 q6 l6 d6, e = .returned (.agg #[.bool s6, .slice p6 k6 c6, .slice q6 l6 d6]) ∧ Hid (FNorm w' (.agg #[.bool s6, .slice p6 k6 c6, .slice q6 l6 d6]) tm) ∧ Below w.heap.size w w' := by
 subst he
 go_enter Tryz.func32, Tryz.ntmps32
 go_upto_region 1 with fail
 have HV := hid (pre2 w [.int .i64 i1, .bool s1, .slice p1 k1 c1, .slice q1 l1 d1, .int .i64 j1, .bool sz1, .slice pz1 kz1 cz1, .slice qz1 lz1 dz1, .bool false] [.bool false, .slice none 0 0, .slice none 0 0] 59 24 nd9 nd3)
 generalize (w.alloc (.cells #[.int .i64 i1, .bool s1, .slice p1 k1 c1, .slice q1 l1 d1, .int .i64 j1, .bool sz1, .slice pz1 kz1 cz1, .slice qz1 lz1 dz1, .bool false] 59)).alloc (.cells #[.bool false, .slice none 0 0, .slice none 0 0] 24) = W0 at *
 obtain ⟨m0, m1, m2, m3, m4, m5, m6, m7, m8, _⟩ := HV.out.1.cells9
 go_wp2_with fail
 refine (unless_ok 2 W0).mono ?_
 rintro e w1 ⟨rfl, rfl⟩
 go_wp2_with fail
 refine (HBD.out _ HV.out.2.2).mono ?_
 rintro e w2 ⟨rfl, hB2⟩
 have HE := hid (And.intro (HV.out.1.below hB2) (And.intro (HV.out.2.1.below hB2) (HV.out.2.2.trans (hB2.mono HV.out.2.2.size))))
 clear hB2 m0 m1 m2 m3 m4 m5 m6 m7 m8
 obtain ⟨m0, m1, m2, m3, m4, m5, m6, m7, m8, _⟩ := HE.out.1.cells9
 go_wp2_with fail
 refine (infinite_any i1 s1 p1 k1 c1 q1 l1 d1 _).mono ?_
 rintro e w3 ⟨rfl, hB3⟩
 rw [hi]
 replace HE := hid (And.intro (HE.out.1.below hB3) (And.intro (HE.out.2.1.below hB3) (HE.out.2.2.trans (hB3.mono HE.out.2.2.size))))
 clear hB3 m0 m1 m2 m3 m4 m5 m6 m7 m8
 obtain ⟨m0, m1, m2, m3, m4, m5, m6, m7, m8, _⟩ := HE.out.1.cells9
 go_wp2_with fail
 refine (HL.out _ HE.out.2.2).mono ?_
 rintro e wa ⟨s4, p4, k4, c4, q4, l4, d4, rfl, hE1, hB1⟩
 have HA := hid (And.intro (HE.out.2.1.below hB1) (HE.out.2.2.trans (hB1.mono HE.out.2.2.size)))
 clear m0 m1 m2 m3 m4 m5 m6 m7 m8 hB1
 go_wp2_with fail
 refine (HF1.out _).mono ?_
 rintro e wb ⟨s5, p5, k5, c5, q5, l5, d5, rfl, hE2, hB2⟩
 have HA2 := hid (And.intro (HA.out.1.below hB2) (And.intro (hE1.out.below hB2) (HA.out.2.trans (hB2.mono HA.out.2.size))))
 clear hB2 hE1
 go_wp2_with fail
 refine (HM.out _ s4 p4 k4 c4 q4 l4 d4 s5 p5 k5 c5 q5 l5 d5 HA2.out.2.2 HA2.out.2.1 hE2.out).mono ?_
 rintro e wc ⟨s6, p6, k6, c6, q6, l6, d6, rfl, hF, hB3⟩
 have HA3 := hid (And.intro (HA2.out.1.below hB3) (HA2.out.2.2.trans (hB3.mono HA2.out.2.2.size)))
 clear hB3 hE2
 go_wp2_with fail
 refine (mustR_ok s6 p6 k6 c6 q6 l6 d6 _).mono ?_
 rintro e wd ⟨rfl, hB4⟩
 have HE2 := hid (And.intro (HA3.out.1.below hB4) (And.intro (hF.out.below hB4) (HA3.out.2.trans (hB4.mono HA3.out.2.size))))
 clear hB4 hF
 obtain ⟨g0, g1, g2, f0, f1, f2⟩ := HE2.out.1.cells3
 go_wp2_with fail
 exact smid_ret rfl (HE2.out.1.stores [.bool s6, .slice p6 k6 c6, .slice q6 l6 d6] rfl nd3) ⟨s6, p6, k6, c6, q6, l6, d6, rfl, hid (FNorm.stores (k := 0) (l := [.bool s6, .slice p6 k6 c6, .slice q6 l6 d6]) HE2.out.2.1 HE2.out.1 nd3), Below.stores (k := 0) (l := [.bool s6, .slice p6 k6 c6, .slice q6 l6 d6]) HE2.out.2.2 (by omega)⟩
theorem smid_l_err (i1 : Int) (s1 : Bool) (p1 : Option Addr) (k1 c1 : Nat) (q1 : Option Addr) (l1 d1 : Nat) (j1 : Int) (sz1 : Bool) (pz1 : Option Addr) (kz1 cz1 : Nat) (qz1 : Option Addr) (lz1 dz1 : Nat) (e1 : Bool) (ta tb tm : Bool × Nat × Nat) (c : Int) (w : World) (he : e1 = false) (HBD : Hid (∀ W, Below w.heap.size w W → Calls Tryz.prog 81 #[.agg #[.int .i64 i1, .bool s1, .slice p1 k1 c1, .slice q1 l1 d1, .int .i64 j1, .bool sz1, .slice pz1 kz1 cz1, .slice qz1 lz1 dz1, .bool e1]] W fun e w' => e = .returned (.bool false) ∧ Below W.heap.size W w')) (hi : (i1 != 0) = false) (HL : Hid (∀ W, Below w.heap.size w W → Calls Tryz.prog 84 #[.agg #[.int .i64 i1, .bool s1, .slice p1 k1 c1, .slice q1 l1 d1]] W fun e w' => ∃ s4 p4 k4 c4 q4 l4 d4, e = .returned (.agg #[.bool s4, .slice p4 k4 c4, .slice q4 l4 d4]) ∧ Hid (FNorm w' (.agg #[.bool s4, .slice p4 k4 c4, .slice q4 l4 d4]) ta) ∧ Below W.heap.size W w')) (HF1 : Hid (∀ W, Calls Tryz.prog 87 #[.int .i64 1] W fun e w' => ∃ s5 p5 k5 c5 q5 l5 d5, e = .returned (.agg #[.bool s5, .slice p5 k5 c5, .slice q5 l5 d5]) ∧ Hid (FNorm w' (.agg #[.bool s5, .slice p5 k5 c5, .slice q5 l5 d5]) tb) ∧ Below W.heap.size W w')) (HM : Hid (∀ W (s4 : Bool) (p4 : Option Addr) (k4 c4 : Nat) (q4 : Option Addr) (l4 d4 : Nat) (s5 : Bool) (p5 : Option Addr) (k5 c5 : Nat) (q5 : Option Addr) (l5 d5 : Nat), Below w.heap.size w W → FNorm W (.agg #[.bool s4, .slice p4 k4 c4, .slice q4 l4 d4]) ta → FNorm W (.agg #[.bool s5, .slice p5 k5 c5, .slice q5 l5 d5]) tb → Calls Tryz.prog 86 #[.agg #[.bool s4, .slice p4 k4 c4, .slice q4 l4 d4], .agg #[.bool s5, .slice p5 k5 c5, .slice q5 l5 d5]] W fun e w' => ∃ s6 p6 k6 c6 q6 l6 d6, e = .returned (.tuple #[.agg #[.bool s6, .slice p6 k6 c6, .slice q6 l6 d6], .int .i64 c]) ∧ Hid (FNorm w' (.agg #[.bool s6, .slice p6 k6 c6, .slice q6 l6 d6]) tm) ∧ Below W.heap.size W w')) (hc : c ≠ 0) :
  Calls Tryz.prog 32 #[.agg #[.int .i64 i1, .bool s1, .slice p1 k1 c1, .slice q1 l1 d1, .int .i64 j1, .bool sz1, .slice pz1 kz1 cz1, .slice qz1 lz1 dz1, .bool e1]] w fun e w' => e = pan c ∧ Below w.heap.size w w' := by
 subst he
 go_enter Tryz.func32, Tryz.ntmps32
 go_upto_region 1 with fail
 have HV := hid (pre2 w [.int .i64 i1, .bool s1, .slice p1 k1 c1, .slice q1 l1 d1, .int .i64 j1, .bool sz1, .slice pz1 kz1 cz1, .slice qz1 lz1 dz1, .bool false] [.bool false, .slice none 0 0, .slice none 0 0] 59 24 nd9 nd3)
 generalize (w.alloc (.cells #[.int .i64 i1, .bool s1, .slice p1 k1 c1, .slice q1 l1 d1, .int .i64 j1, .bool sz1, .slice pz1 kz1 cz1, .slice qz1 lz1 dz1, .bool false] 59)).alloc (.cells #[.bool false, .slice none 0 0, .slice none 0 0] 24) = W0 at *
 obtain ⟨m0, m1, m2, m3, m4, m5, m6, m7, m8, _⟩ := HV.out.1.cells9
 go_wp2_with fail
 refine (unless_ok 2 W0).mono ?_
 rintro e w1 ⟨rfl, rfl⟩
 go_wp2_with fail
 refine (HBD.out _ HV.out.2.2).mono ?_
 rintro e w2 ⟨rfl, hB2⟩
 have HE := hid (And.intro (HV.out.1.below hB2) (And.intro (HV.out.2.1.below hB2) (HV.out.2.2.trans (hB2.mono HV.out.2.2.size))))
 clear hB2 m0 m1 m2 m3 m4 m5 m6 m7 m8
 obtain ⟨m0, m1, m2, m3, m4, m5, m6, m7, m8, _⟩ := HE.out.1.cells9
 go_wp2_with fail
 refine (infinite_any i1 s1 p1 k1 c1 q1 l1 d1 _).mono ?_
 rintro e w3 ⟨rfl, hB3⟩
 rw [hi]
 replace HE := hid (And.intro (HE.out.1.below hB3) (And.intro (HE.out.2.1.below hB3) (HE.out.2.2.trans (hB3.mono HE.out.2.2.size))))
 clear hB3 m0 m1 m2 m3 m4 m5 m6 m7 m8
 obtain ⟨m0, m1, m2, m3, m4, m5, m6, m7, m8, _⟩ := HE.out.1.cells9
 go_wp2_with fail
 refine (HL.out _ HE.out.2.2).mono ?_
 rintro e wa ⟨s4, p4, k4, c4, q4, l4, d4, rfl, hE1, hB1⟩
 have HA := hid (And.intro (HE.out.2.1.below hB1) (HE.out.2.2.trans (hB1.mono HE.out.2.2.size)))
 clear m0 m1 m2 m3 m4 m5 m6 m7 m8 hB1
 go_wp2_with fail
 refine (HF1.out _).mono ?_
 rintro e wb ⟨s5, p5, k5, c5, q5, l5, d5, rfl, hE2, hB2⟩
 have HA2 := hid (And.intro (HA.out.1.below hB2) (And.intro (hE1.out.below hB2) (HA.out.2.trans (hB2.mono HA.out.2.size))))
 clear hB2 hE1
 go_wp2_with fail
 refine (HM.out _ s4 p4 k4 c4 q4 l4 d4 s5 p5 k5 c5 q5 l5 d5 HA2.out.2.2 HA2.out.2.1 hE2.out).mono ?_
 rintro e wc ⟨s6, p6, k6, c6, q6, l6, d6, rfl, hF, hB3⟩
 have HA3 := hid (And.intro (HA2.out.1.below hB3) (HA2.out.2.2.trans (hB3.mono HA2.out.2.2.size)))
 clear hB3 hE2
 go_wp2_with fail
 refine (mustR_err s6 p6 k6 c6 q6 l6 d6 c hc _).mono ?_
 rintro e wd ⟨rfl, hB4⟩
 exact ⟨rfl, rfl, HA3.out.2.trans (hB4.mono HA3.out.2.size)⟩
theorem smid_h (i1 : Int) (s1 : Bool) (p1 : Option Addr) (k1 c1 : Nat) (q1 : Option Addr) (l1 d1 : Nat) (j1 : Int) (sz1 : Bool) (pz1 : Option Addr) (kz1 cz1 : Nat) (qz1 : Option Addr) (lz1 dz1 : Nat) (e1 : Bool) (ta tb tm : Bool × Nat × Nat) (w : World) (he : e1 = false) (HBD : Hid (∀ W, Below w.heap.size w W → Calls Tryz.prog 81 #[.agg #[.int .i64 i1, .bool s1, .slice p1 k1 c1, .slice q1 l1 d1, .int .i64 j1, .bool sz1, .slice pz1 kz1 cz1, .slice qz1 lz1 dz1, .bool e1]] W fun e w' => e = .returned (.bool false) ∧ Below W.heap.size W w')) (hi : (i1 != 0) = true) (hj : (j1 != 0) = false) (HH : Hid (∀ W, Below w.heap.size w W → Calls Tryz.prog 84 #[.agg #[.int .i64 j1, .bool sz1, .slice pz1 kz1 cz1, .slice qz1 lz1 dz1]] W fun e w' => ∃ s4 p4 k4 c4 q4 l4 d4, e = .returned (.agg #[.bool s4, .slice p4 k4 c4, .slice q4 l4 d4]) ∧ Hid (FNorm w' (.agg #[.bool s4, .slice p4 k4 c4, .slice q4 l4 d4]) ta) ∧ Below W.heap.size W w')) (HF1 : Hid (∀ W, Calls Tryz.prog 87 #[.int .i64 1] W fun e w' => ∃ s5 p5 k5 c5 q5 l5 d5, e = .returned (.agg #[.bool s5, .slice p5 k5 c5, .slice q5 l5 d5]) ∧ Hid (FNorm w' (.agg #[.bool s5, .slice p5 k5 c5, .slice q5 l5 d5]) tb) ∧ Below W.heap.size W w')) (HM : Hid (∀ W (s4 : Bool) (p4 : Option Addr) (k4 c4 : Nat) (q4 : Option Addr) (l4 d4 : Nat) (s5 : Bool) (p5 : Option Addr) (k5 c5 : Nat) (q5 : Option Addr) (l5 d5 : Nat), Below w.heap.size w W → FNorm W (.agg #[.bool s4, .slice p4 k4 c4, .slice q4 l4 d4]) ta → FNorm W (.agg #[.bool s5, .slice p5 k5 c5, .slice q5 l5 d5]) tb → Calls Tryz.prog 88 #[.agg #[.bool s4, .slice p4 k4 c4, .slice q4 l4 d4], .agg #[.bool s5, .slice p5 k5 c5, .slice q5 l5 d5]] W fun e w' => ∃ s6 p6 k6 c6 q6 l6 d6, e = .returned (.tuple #[.agg #[.bool s6, .slice p6 k6 c6, .slice q6 l6 d6], .int .i64 0]) ∧ Hid (FNorm w' (.agg #[.bool s6, .slice p6 k6 c6, .slice q6 l6 d6]) tm) ∧ Below W.heap.size W w')) :
  Calls Tryz.prog 32 #[.agg #[.int .i64 i1, .bool s1, .slice p1 k1 c1, .slice q1 l1 d1, .int .i64 j1, .bool sz1, .slice pz1 kz1 cz1, .slice qz1 lz1 dz1, .bool e1]] w fun e w' => ∃ s6 p6 k6 c6 q6 l6 d6, e = .returned (.agg #[.bool s6, .slice p6 k6 c6, .slice q6 l6 d6]) ∧ Hid (FNorm w' (.agg #[.bool s6, .slice p6 k6 c6, .slice q6 l6 d6]) tm) ∧ Below w.heap.size w w' := by
 subst he
 go_enter Tryz.func32, Tryz.ntmps32
 go_upto_region 1 with fail
 have HV := hid (pre2 w [.int .i64 i1, .bool s1, .slice p1 k1 c1, .slice q1 l1 d1, .int .i64 j1, .bool sz1, .slice pz1 kz1 cz1, .slice qz1 lz1 dz1, .bool false] [.bool false, .slice none 0 0, .slice none 0 0] 59 24 nd9 nd3)
 generalize (w.alloc (.cells #[.int .i64 i1, .bool s1, .slice p1 k1 c1, .slice q1 l1 d1, .int .i64 j1, .bool sz1, .slice pz1 kz1 cz1, .slice qz1 lz1 dz1, .bool false] 59)).alloc (.cells #[.bool false, .slice none 0 0, .slice none 0 0] 24) = W0 at *
 obtain ⟨m0, m1, m2, m3, m4, m5, m6, m7, m8, _⟩ := HV.out.1.cells9
 go_wp2_with fail
 refine (unless_ok 2 W0).mono ?_
 rintro e w1 ⟨rfl, rfl⟩
 go_wp2_with fail
 refine (HBD.out _ HV.out.2.2).mono ?_
 rintro e w2 ⟨rfl, hB2⟩
 have HE := hid (And.intro (HV.out.1.below hB2) (And.intro (HV.out.2.1.below hB2) (HV.out.2.2.trans (hB2.mono HV.out.2.2.size))))
 clear hB2 m0 m1 m2 m3 m4 m5 m6 m7 m8
 obtain ⟨m0, m1, m2, m3, m4, m5, m6, m7, m8, _⟩ := HE.out.1.cells9
 go_wp2_with fail
 refine (infinite_any i1 s1 p1 k1 c1 q1 l1 d1 _).mono ?_
 rintro e w3 ⟨rfl, hB3⟩
 rw [hi]
 replace HE := hid (And.intro (HE.out.1.below hB3) (And.intro (HE.out.2.1.below hB3) (HE.out.2.2.trans (hB3.mono HE.out.2.2.size))))
 clear hB3 m0 m1 m2 m3 m4 m5 m6 m7 m8
 obtain ⟨m0, m1, m2, m3, m4, m5, m6, m7, m8, _⟩ := HE.out.1.cells9
 go_wp2_with fail
 refine (infinite_any j1 sz1 pz1 kz1 cz1 qz1 lz1 dz1 _).mono ?_
 rintro e w3 ⟨rfl, hB3⟩
 rw [hj]
 replace HE := hid (And.intro (HE.out.1.below hB3) (And.intro (HE.out.2.1.below hB3) (HE.out.2.2.trans (hB3.mono HE.out.2.2.size))))
 clear hB3 m0 m1 m2 m3 m4 m5 m6 m7 m8
 obtain ⟨m0, m1, m2, m3, m4, m5, m6, m7, m8, _⟩ := HE.out.1.cells9
 go_wp2_with fail
 refine (HH.out _ HE.out.2.2).mono ?_
 rintro e wa ⟨s4, p4, k4, c4, q4, l4, d4, rfl, hE1, hB1⟩
 have HA := hid (And.intro (HE.out.2.1.below hB1) (HE.out.2.2.trans (hB1.mono HE.out.2.2.size)))
 clear m0 m1 m2 m3 m4 m5 m6 m7 m8 hB1
 go_wp2_with fail
 refine (HF1.out _).mono ?_
 rintro e wb ⟨s5, p5, k5, c5, q5, l5, d5, rfl, hE2, hB2⟩
 have HA2 := hid (And.intro (HA.out.1.below hB2) (And.intro (hE1.out.below hB2) (HA.out.2.trans (hB2.mono HA.out.2.size))))
 clear hB2 hE1
 go_wp2_with fail
 refine (HM.out _ s4 p4 k4 c4 q4 l4 d4 s5 p5 k5 c5 q5 l5 d5 HA2.out.2.2 HA2.out.2.1 hE2.out).mono ?_
 rintro e wc ⟨s6, p6, k6, c6, q6, l6, d6, rfl, hF, hB3⟩
 have HA3 := hid (And.intro (HA2.out.1.below hB3) (HA2.out.2.2.trans (hB3.mono HA2.out.2.2.size)))
 clear hB3 hE2
 go_wp2_with fail
 refine (mustR_ok s6 p6 k6 c6 q6 l6 d6 _).mono ?_
 rintro e wd ⟨rfl, hB4⟩
 have HE2 := hid (And.intro (HA3.out.1.below hB4) (And.intro (hF.out.below hB4) (HA3.out.2.trans (hB4.mono HA3.out.2.size))))
 clear hB4 hF
 obtain ⟨g0, g1, g2, f0, f1, f2⟩ := HE2.out.1.cells3
 go_wp2_with fail
 exact smid_ret rfl (HE2.out.1.stores [.bool s6, .slice p6 k6 c6, .slice q6 l6 d6] rfl nd3) ⟨s6, p6, k6, c6, q6, l6, d6, rfl, hid (FNorm.stores (k := 0) (l := [.bool s6, .slice p6 k6 c6, .slice q6 l6 d6]) HE2.out.2.1 HE2.out.1 nd3), Below.stores (k := 0) (l := [.bool s6, .slice p6 k6 c6, .slice q6 l6 d6]) HE2.out.2.2 (by omega)⟩
theorem smid_h_err (i1 : Int) (s1 : Bool) (p1 : Option Addr) (k1 c1 : Nat) (q1 : Option Addr) (l1 d1 : Nat) (j1 : Int) (sz1 : Bool) (pz1 : Option Addr) (kz1 cz1 : Nat) (qz1 : Option Addr) (lz1 dz1 : Nat) (e1 : Bool) (ta tb tm : Bool × Nat × Nat) (c : Int) (w : World) (he : e1 = false) (HBD : Hid (∀ W, Below w.heap.size w W → Calls Tryz.prog 81 #[.agg #[.int .i64 i1, .bool s1, .slice p1 k1 c1, .slice q1 l1 d1, .int .i64 j1, .bool sz1, .slice pz1 kz1 cz1, .slice qz1 lz1 dz1, .bool e1]] W fun e w' => e = .returned (.bool false) ∧ Below W.heap.size W w')) (hi : (i1 != 0) = true) (hj : (j1 != 0) = false) (HH : Hid (∀ W, Below w.heap.size w W → Calls Tryz.prog 84 #[.agg #[.int .i64 j1, .bool sz1, .slice pz1 kz1 cz1, .slice qz1 lz1 dz1]] W fun e w' => ∃ s4 p4 k4 c4 q4 l4 d4, e = .returned (.agg #[.bool s4, .slice p4 k4 c4, .slice q4 l4 d4]) ∧ Hid (FNorm w' (.agg #[.bool s4, .slice p4 k4 c4, .slice q4 l4 d4]) ta) ∧ Below W.heap.size W w')) (HF1 : Hid (∀ W, Calls Tryz.prog 87 #[.int .i64 1] W fun e w' => ∃ s5 p5 k5 c5 q5 l5 d5, e = .returned (.agg #[.bool s5, .slice p5 k5 c5, .slice q5 l5 d5]) ∧ Hid (FNorm w' (.agg #[.bool s5, .slice p5 k5 c5, .slice q5 l5 d5]) tb) ∧ Below W.heap.size W w')) (HM : Hid (∀ W (s4 : Bool) (p4 : Option Addr) (k4 c4 : Nat) (q4 : Option Addr) (l4 d4 : Nat) (s5 : Bool) (p5 : Option Addr) (k5 c5 : Nat) (q5 : Option Addr) (l5 d5 : Nat), Below w.heap.size w W → FNorm W (.agg #[.bool s4, .slice p4 k4 c4, .slice q4 l4 d4]) ta → FNorm W (.agg #[.bool s5, .slice p5 k5 c5, .slice q5 l5 d5]) tb → Calls Tryz.prog 88 #[.agg #[.bool s4, .slice p4 k4 c4, .slice q4 l4 d4], .agg #[.bool s5, .slice p5 k5 c5, .slice q5 l5 d5]] W fun e w' => ∃ s6 p6 k6 c6 q6 l6 d6, e = .returned (.tuple #[.agg #[.bool s6, .slice p6 k6 c6, .slice q6 l6 d6], .int .i64 c]) ∧ Hid (FNorm w' (.agg #[.bool s6, .slice p6 k6 c6, .slice q6 l6 d6]) tm) ∧ Below W.heap.size W w')) (hc : c ≠ 0) :
  Calls Tryz.prog 32 #[.agg #[.int .i64 i1, .bool s1, .slice p1 k1 c1, .slice q1 l1 d1, .int .i64 j1, .bool sz1, .slice pz1 kz1 cz1, .slice qz1 lz1 dz1, .bool e1]] w fun e w' => e = pan c ∧ Below w.heap.size w w' := by
 subst he
 go_enter Tryz.func32, Tryz.ntmps32
 go_upto_region 1 with fail
 have HV := hid (pre2 w [.int .i64 i1, .bool s1, .slice p1 k1 c1, .slice q1 l1 d1, .int .i64 j1, .bool sz1, .slice pz1 kz1 cz1, .slice qz1 lz1 dz1, .bool false] [.bool false, .slice none 0 0, .slice none 0 0] 59 24 nd9 nd3)
 generalize (w.alloc (.cells #[.int .i64 i1, .bool s1, .slice p1 k1 c1, .slice q1 l1 d1, .int .i64 j1, .bool sz1, .slice pz1 kz1 cz1, .slice qz1 lz1 dz1, .bool false] 59)).alloc (.cells #[.bool false, .slice none 0 0, .slice none 0 0] 24) = W0 at *
 obtain ⟨m0, m1, m2, m3, m4, m5, m6, m7, m8, _⟩ := HV.out.1.cells9
 go_wp2_with fail
 refine (unless_ok 2 W0).mono ?_
 rintro e w1 ⟨rfl, rfl⟩
 go_wp2_with fail
 refine (HBD.out _ HV.out.2.2).mono ?_
 rintro e w2 ⟨rfl, hB2⟩
 have HE := hid (And.intro (HV.out.1.below hB2) (And.intro (HV.out.2.1.below hB2) (HV.out.2.2.trans (hB2.mono HV.out.2.2.size))))
 clear hB2 m0 m1 m2 m3 m4 m5 m6 m7 m8
 obtain ⟨m0, m1, m2, m3, m4, m5, m6, m7, m8, _⟩ := HE.out.1.cells9
 go_wp2_with fail
 refine (infinite_any i1 s1 p1 k1 c1 q1 l1 d1 _).mono ?_
 rintro e w3 ⟨rfl, hB3⟩
 rw [hi]
 replace HE := hid (And.intro (HE.out.1.below hB3) (And.intro (HE.out.2.1.below hB3) (HE.out.2.2.trans (hB3.mono HE.out.2.2.size))))
 clear hB3 m0 m1 m2 m3 m4 m5 m6 m7 m8
 obtain ⟨m0, m1, m2, m3, m4, m5, m6, m7, m8, _⟩ := HE.out.1.cells9
 go_wp2_with fail
 refine (infinite_any j1 sz1 pz1 kz1 cz1 qz1 lz1 dz1 _).mono ?_
 rintro e w3 ⟨rfl, hB3⟩
 rw [hj]
 replace HE := hid (And.intro (HE.out.1.below hB3) (And.intro (HE.out.2.1.below hB3) (HE.out.2.2.trans (hB3.mono HE.out.2.2.size))))
 clear hB3 m0 m1 m2 m3 m4 m5 m6 m7 m8
 obtain ⟨m0, m1, m2, m3, m4, m5, m6, m7, m8, _⟩ := HE.out.1.cells9
 go_wp2_with fail
 refine (HH.out _ HE.out.2.2).mono ?_
 rintro e wa ⟨s4, p4, k4, c4, q4, l4, d4, rfl, hE1, hB1⟩
 have HA := hid (And.intro (HE.out.2.1.below hB1) (HE.out.2.2.trans (hB1.mono HE.out.2.2.size)))
 clear m0 m1 m2 m3 m4 m5 m6 m7 m8 hB1
 go_wp2_with fail
 refine (HF1.out _).mono ?_
 rintro e wb ⟨s5, p5, k5, c5, q5, l5, d5, rfl, hE2, hB2⟩
 have HA2 := hid (And.intro (HA.out.1.below hB2) (And.intro (hE1.out.below hB2) (HA.out.2.trans (hB2.mono HA.out.2.size))))
 clear hB2 hE1
 go_wp2_with fail
 refine (HM.out _ s4 p4 k4 c4 q4 l4 d4 s5 p5 k5 c5 q5 l5 d5 HA2.out.2.2 HA2.out.2.1 hE2.out).mono ?_
 rintro e wc ⟨s6, p6, k6, c6, q6, l6, d6, rfl, hF, hB3⟩
 have HA3 := hid (And.intro (HA2.out.1.below hB3) (HA2.out.2.2.trans (hB3.mono HA2.out.2.2.size)))
 clear hB3 hE2
 go_wp2_with fail
 refine (mustR_err s6 p6 k6 c6 q6 l6 d6 c hc _).mono ?_
 rintro e wd ⟨rfl, hB4⟩
 exact ⟨rfl, rfl, HA3.out.2.trans (hB4.mono HA3.out.2.size)⟩
theorem smid_n (i1 : Int) (s1 : Bool) (p1 : Option Addr) (k1 c1 : Nat) (q1 : Option Addr) (l1 d1 : Nat) (j1 : Int) (sz1 : Bool) (pz1 : Option Addr) (kz1 cz1 : Nat) (qz1 : Option Addr) (lz1 dz1 : Nat) (e1 : Bool) (tm : Bool × Nat × Nat) (w : World) (he : e1 = false) (HBD : Hid (∀ W, Below w.heap.size w W → Calls Tryz.prog 81 #[.agg #[.int .i64 i1, .bool s1, .slice p1 k1 c1, .slice q1 l1 d1, .int .i64 j1, .bool sz1, .slice pz1 kz1 cz1, .slice qz1 lz1 dz1, .bool e1]] W fun e w' => e = .returned (.bool false) ∧ Below W.heap.size W w')) (hi : (i1 != 0) = true) (hj : (j1 != 0) = true) (HF0 : Hid (∀ W, Calls Tryz.prog 87 #[.int .i64 0] W fun e w' => ∃ s6 p6 k6 c6 q6 l6 d6, e = .returned (.agg #[.bool s6, .slice p6 k6 c6, .slice q6 l6 d6]) ∧ Hid (FNorm w' (.agg #[.bool s6, .slice p6 k6 c6, .slice q6 l6 d6]) tm) ∧ Below W.heap.size W w')) :
  Calls Tryz.prog 32 #[.agg #[.int .i64 i1, .bool s1, .slice p1 k1 c1, .slice q1 l1 d1, .int .i64 j1, .bool sz1, .slice pz1 kz1 cz1, .slice qz1 lz1 dz1, .bool e1]] w fun e w' => ∃ s6 p6 k6 c6 q6 l6 d6, e = .returned (.agg #[.bool s6, .slice p6 k6 c6, .slice q6 l6 d6]) ∧ Hid (FNorm w' (.agg #[.bool s6, .slice p6 k6 c6, .slice q6 l6 d6]) tm) ∧ Below w.heap.size w w' := by
 subst he
 go_enter Tryz.func32, Tryz.ntmps32
 go_upto_region 1 with fail
 have HV := hid (pre2 w [.int .i64 i1, .bool s1, .slice p1 k1 c1, .slice q1 l1 d1, .int .i64 j1, .bool sz1, .slice pz1 kz1 cz1, .slice qz1 lz1 dz1, .bool false] [.bool false, .slice none 0 0, .slice none 0 0] 59 24 nd9 nd3)
 generalize (w.alloc (.cells #[.int .i64 i1, .bool s1, .slice p1 k1 c1, .slice q1 l1 d1, .int .i64 j1, .bool sz1, .slice pz1 kz1 cz1, .slice qz1 lz1 dz1, .bool false] 59)).alloc (.cells #[.bool false, .slice none 0 0, .slice none 0 0] 24) = W0 at *
 obtain ⟨m0, m1, m2, m3, m4, m5, m6, m7, m8, _⟩ := HV.out.1.cells9
 go_wp2_with fail
 refine (unless_ok 2 W0).mono ?_
 rintro e w1 ⟨rfl, rfl⟩
 go_wp2_with fail
 refine (HBD.out _ HV.out.2.2).mono ?_
 rintro e w2 ⟨rfl, hB2⟩
 have HE := hid (And.intro (HV.out.1.below hB2) (And.intro (HV.out.2.1.below hB2) (HV.out.2.2.trans (hB2.mono HV.out.2.2.size))))
 clear hB2 m0 m1 m2 m3 m4 m5 m6 m7 m8
 obtain ⟨m0, m1, m2, m3, m4, m5, m6, m7, m8, _⟩ := HE.out.1.cells9
 go_wp2_with fail
 refine (infinite_any i1 s1 p1 k1 c1 q1 l1 d1 _).mono ?_
 rintro e w3 ⟨rfl, hB3⟩
 rw [hi]
 replace HE := hid (And.intro (HE.out.1.below hB3) (And.intro (HE.out.2.1.below hB3) (HE.out.2.2.trans (hB3.mono HE.out.2.2.size))))
 clear hB3 m0 m1 m2 m3 m4 m5 m6 m7 m8
 obtain ⟨m0, m1, m2, m3, m4, m5, m6, m7, m8, _⟩ := HE.out.1.cells9
 go_wp2_with fail
 refine (infinite_any j1 sz1 pz1 kz1 cz1 qz1 lz1 dz1 _).mono ?_
 rintro e w3 ⟨rfl, hB3⟩
 rw [hj]
 replace HE := hid (And.intro (HE.out.1.below hB3) (And.intro (HE.out.2.1.below hB3) (HE.out.2.2.trans (hB3.mono HE.out.2.2.size))))
 clear hB3 m0 m1 m2 m3 m4 m5 m6 m7 m8
 go_wp2_with fail
 refine (HF0.out _).mono ?_
 rintro e w5 ⟨s6, p6, k6, c6, q6, l6, d6, rfl, hF, hB5⟩
 have HE2 := hid (And.intro (HE.out.2.1.below hB5) (And.intro hF.out (HE.out.2.2.trans (hB5.mono HE.out.2.2.size))))
 clear hB5 hF
 obtain ⟨g0, g1, g2, f0, f1, f2⟩ := HE2.out.1.cells3
 go_wp2_with fail
 exact smid_ret rfl (HE2.out.1.stores [.bool s6, .slice p6 k6 c6, .slice q6 l6 d6] rfl nd3) ⟨s6, p6, k6, c6, q6, l6, d6, rfl, hid (FNorm.stores (k := 0) (l := [.bool s6, .slice p6 k6 c6, .slice q6 l6 d6]) HE2.out.2.1 HE2.out.1 nd3), Below.stores (k := 0) (l := [.bool s6, .slice p6 k6 c6, .slice q6 l6 d6]) HE2.out.2.2 (by omega)⟩
end Go.Proofs.YtheojajaefjecaaGreatDoor
