/- The opposite of a set, of the program. -/
import Derived.Test.YtpdpabpdejmdbaaGreatDoorMkI
import Derived.Test.YtpdpabpdejmdbaaGreatDoorBothI
import Derived.WalkSmall
set_option maxHeartbeats 2000000
set_option maxRecDepth 100000
namespace Go.Proofs.YtpdpabpdejmdbaaGreatDoor
open Go.RowKit Dg
def eneg (x : Int × Bool × Nat × Nat) : Int × Bool × Nat × Nat := if x.1 = 0 then (0, fneg x.2) else (-x.1, false, 0, 0)
def sneg (x : (Int × Bool × Nat × Nat) × (Int × Bool × Nat × Nat) × Bool) : (Int × Bool × Nat × Nat) × (Int × Bool × Nat × Nat) × Bool := (eneg x.2.1, eneg x.1, false)
theorem eneg_ret {W : World} {B : Nat} {a0 a1 a2 a3 : Value} {tm : Array Value} {R : Ending → World → Prop} (h2 : tm[2]?.getD undef = .pointer (some ⟨B, 0, none⟩)) (hV : Box W B #[a0, a1, a2, a3]) (hR : R (.returned (.agg #[a0, a1, a2, a3])) W) :
  bodyPost Tryz.prog Tryz.f140 R .ret { tmps := tm, defers := [] } W := by
 obtain ⟨g0, g1, g2, g3, _⟩ := hV.cells4
 exact bodyPost_ret (v := .agg #[a0, a1, a2, a3]) (by simp [results, Tryz.results140, go_sem, h2, g0, g1, g2, g3]) rfl hR
theorem eneg_infp (s1 : Bool) (p1 : Option Addr) (k1 c1 : Nat) (q1 : Option Addr) (l1 d1 : Nat) (w : World) :
  Calls Tryz.prog 140 #[.agg #[.int .i64 (1), .bool s1, .slice p1 k1 c1, .slice q1 l1 d1]] w fun e w' => e = .returned (.agg #[.int .i64 (-1), .bool false, .slice none 0 0, .slice none 0 0]) ∧ Below w.heap.size w w' := by
 go_enter Tryz.func140, Tryz.ntmps140
 go_wp2_with fail
 have HV := hid (pre2 w [.int .i64 (1), .bool s1, .slice p1 k1 c1, .slice q1 l1 d1] [.int .i64 0, .bool false, .slice none 0 0, .slice none 0 0] 63 63 nd4 nd4)
 generalize (w.alloc (.cells #[.int .i64 (1), .bool s1, .slice p1 k1 c1, .slice q1 l1 d1] 63)).alloc (.cells #[.int .i64 0, .bool false, .slice none 0 0, .slice none 0 0] 63) = W0 at *
 refine (infinite_any (1) s1 p1 k1 c1 q1 l1 d1 W0).mono ?_
 rintro e w1 ⟨rfl, hB1⟩
 rw [show ((1 : Int) != 0) = true from rfl]
 have HE := hid (And.intro (HV.out.2.1.below hB1) (HV.out.2.2.trans (hB1.mono HV.out.2.2.size)))
 obtain ⟨u0, u1, u2, u3, _⟩ := (HV.out.1.below hB1).cells4
 clear hB1
 obtain ⟨g0, g1, g2, g3, f0, f1, f2, f3⟩ := HE.out.1.cells4
 go_wp2_with fail
 exact eneg_ret rfl (HE.out.1.stores [.int .i64 (-1), .bool false, .slice none 0 0, .slice none 0 0] rfl nd4) ⟨rfl, Below.stores (k := 0) (l := [.int .i64 (-1), .bool false, .slice none 0 0, .slice none 0 0]) HE.out.2 (Nat.le_succ _)⟩
theorem eneg_infm (s1 : Bool) (p1 : Option Addr) (k1 c1 : Nat) (q1 : Option Addr) (l1 d1 : Nat) (w : World) :
  Calls Tryz.prog 140 #[.agg #[.int .i64 (-1), .bool s1, .slice p1 k1 c1, .slice q1 l1 d1]] w fun e w' => e = .returned (.agg #[.int .i64 (1), .bool false, .slice none 0 0, .slice none 0 0]) ∧ Below w.heap.size w w' := by
 go_enter Tryz.func140, Tryz.ntmps140
 go_wp2_with fail
 have HV := hid (pre2 w [.int .i64 (-1), .bool s1, .slice p1 k1 c1, .slice q1 l1 d1] [.int .i64 0, .bool false, .slice none 0 0, .slice none 0 0] 63 63 nd4 nd4)
 generalize (w.alloc (.cells #[.int .i64 (-1), .bool s1, .slice p1 k1 c1, .slice q1 l1 d1] 63)).alloc (.cells #[.int .i64 0, .bool false, .slice none 0 0, .slice none 0 0] 63) = W0 at *
 refine (infinite_any (-1) s1 p1 k1 c1 q1 l1 d1 W0).mono ?_
 rintro e w1 ⟨rfl, hB1⟩
 rw [show ((-1 : Int) != 0) = true from rfl]
 have HE := hid (And.intro (HV.out.2.1.below hB1) (HV.out.2.2.trans (hB1.mono HV.out.2.2.size)))
 obtain ⟨u0, u1, u2, u3, _⟩ := (HV.out.1.below hB1).cells4
 clear hB1
 obtain ⟨g0, g1, g2, g3, f0, f1, f2, f3⟩ := HE.out.1.cells4
 go_wp2_with fail
 exact eneg_ret rfl (HE.out.1.stores [.int .i64 (1), .bool false, .slice none 0 0, .slice none 0 0] rfl nd4) ⟨rfl, Below.stores (k := 0) (l := [.int .i64 (1), .bool false, .slice none 0 0, .slice none 0 0]) HE.out.2 (Nat.le_succ _)⟩
theorem eneg_fin (s1 : Bool) (p1 : Option Addr) (k1 c1 : Nat) (q1 : Option Addr) (l1 d1 : Nat) (t : Bool × Nat × Nat) (w : World) (h : FNorm w (.agg #[.bool s1, .slice p1 k1 c1, .slice q1 l1 d1]) t) :
  Calls Tryz.prog 140 #[.agg #[.int .i64 0, .bool s1, .slice p1 k1 c1, .slice q1 l1 d1]] w fun e w' => ∃ s2 p2 k2 c2 q2 l2 d2, e = .returned (.agg #[.int .i64 0, .bool s2, .slice p2 k2 c2, .slice q2 l2 d2]) ∧ Hid (FNorm w' (.agg #[.bool s2, .slice p2 k2 c2, .slice q2 l2 d2]) (fneg t)) ∧ Below w.heap.size w w' := by
 have HO := hid (fun (W : World) (hW : Below w.heap.size w W) => fopen (t := fneg t) (Neg_any (.agg #[.bool s1, .slice p1 k1 c1, .slice q1 l1 d1]) t.1 t.2.1 t.2.2 W (FNorm.below h hW)))
 clear h
 obtain ⟨r, hr⟩ : ∃ r, r = fneg t := ⟨_, rfl⟩
 rw [← hr] at HO ⊢
 clear hr
 go_enter Tryz.func140, Tryz.ntmps140
 go_wp2_with fail
 have HV := hid (pre2 w [.int .i64 0, .bool s1, .slice p1 k1 c1, .slice q1 l1 d1] [.int .i64 0, .bool false, .slice none 0 0, .slice none 0 0] 63 63 nd4 nd4)
 generalize (w.alloc (.cells #[.int .i64 0, .bool s1, .slice p1 k1 c1, .slice q1 l1 d1] 63)).alloc (.cells #[.int .i64 0, .bool false, .slice none 0 0, .slice none 0 0] 63) = W0 at *
 refine (infinite_any 0 s1 p1 k1 c1 q1 l1 d1 W0).mono ?_
 rintro e w1 ⟨rfl, hB1⟩
 rw [show ((0 : Int) != 0) = false from rfl]
 have HE := hid (And.intro (HV.out.2.1.below hB1) (HV.out.2.2.trans (hB1.mono HV.out.2.2.size)))
 obtain ⟨u0, u1, u2, u3, _⟩ := (HV.out.1.below hB1).cells4
 clear hB1
 go_wp2_with fail
 refine (HO.out _ HE.out.2).mono ?_
 rintro e w2 ⟨s2, p2, k2, c2, q2, l2, d2, rfl, hF, hB2⟩
 have HE2 := hid (And.intro (HE.out.1.below hB2) (HE.out.2.trans (hB2.mono HE.out.2.size)))
 clear hB2 u0 u1 u2 u3
 go_wp2_with fail
 refine (finite_any s2 p2 k2 c2 q2 l2 d2 w2).mono ?_
 rintro e w3 ⟨rfl, hB3⟩
 have HE3 := hid (And.intro (HE2.out.1.below hB3) (HE2.out.2.trans (hB3.mono HE2.out.2.size)))
 have HF3 := hid (hF.out.below hB3)
 clear hB3 hF
 obtain ⟨g0, g1, g2, g3, f0, f1, f2, f3⟩ := HE3.out.1.cells4
 go_wp2_with fail
 exact eneg_ret rfl (HE3.out.1.stores [.int .i64 0, .bool s2, .slice p2 k2 c2, .slice q2 l2 d2] rfl nd4) ⟨s2, p2, k2, c2, q2, l2, d2, rfl, hid (FNorm.stores (k := 0) (l := [.int .i64 0, .bool s2, .slice p2 k2 c2, .slice q2 l2 d2]) HF3.out HE3.out.1 nd4), Below.stores (k := 0) (l := [.int .i64 0, .bool s2, .slice p2 k2 c2, .slice q2 l2 d2]) HE3.out.2 (Nat.le_succ _)⟩
theorem eneg_any (i1 : Int) (s1 : Bool) (p1 : Option Addr) (k1 c1 : Nat) (q1 : Option Addr) (l1 d1 : Nat) (x : Int × Bool × Nat × Nat) (A : Nat) (w : World) (h : ERep w (.agg #[.int .i64 i1, .bool s1, .slice p1 k1 c1, .slice q1 l1 d1]) x) (hx : EOk A x) :
  Calls Tryz.prog 140 #[.agg #[.int .i64 i1, .bool s1, .slice p1 k1 c1, .slice q1 l1 d1]] w fun e w' => ∃ i2 s2 p2 k2 c2 q2 l2 d2, e = .returned (.agg #[.int .i64 i2, .bool s2, .slice p2 k2 c2, .slice q2 l2 d2]) ∧ Hid (ERep w' (.agg #[.int .i64 i2, .bool s2, .slice p2 k2 c2, .slice q2 l2 d2]) (eneg x)) ∧ Below w.heap.size w w' := by
 obtain ⟨hi, hF⟩ := h.frac
 by_cases h0 : x.1 = 0
 ·rw [h0] at hi
  subst hi
  refine (eneg_fin s1 p1 k1 c1 q1 l1 d1 x.2 w hF).mono ?_
  rintro e w' ⟨s2, p2, k2, c2, q2, l2, d2, rfl, hF2, hB⟩
  refine ⟨0, s2, p2, k2, c2, q2, l2, d2, rfl, hid ?_, hB⟩
  unfold eneg
  rw [if_pos h0]
  exact ERep.mk rfl hF2.out
 ·unfold eneg
  rw [if_neg h0]
  rcases (hx.inf h0).1 with h1 | h1
  ·rw [h1] at hi ⊢
   subst hi
   refine (eneg_infp s1 p1 k1 c1 q1 l1 d1 w).mono ?_
   rintro e w' ⟨rfl, hB⟩
   exact ⟨-1, false, none, 0, 0, none, 0, 0, rfl, hid (ERep.mk rfl (FNorm.zero w')), hB⟩
  ·rw [h1] at hi ⊢
   subst hi
   refine (eneg_infm s1 p1 k1 c1 q1 l1 d1 w).mono ?_
   rintro e w' ⟨rfl, hB⟩
   exact ⟨1, false, none, 0, 0, none, 0, 0, rfl, hid (ERep.mk rfl (FNorm.zero w')), hB⟩
theorem sneg_ret {W : World} {B : Nat} {a0 a1 a2 a3 a4 a5 a6 a7 a8 : Value} {tm : Array Value} {R : Ending → World → Prop} (h2 : tm[2]?.getD undef = .pointer (some ⟨B, 0, none⟩)) (hV : Box W B #[a0, a1, a2, a3, a4, a5, a6, a7, a8]) (hR : R (.returned (.agg #[a0, a1, a2, a3, a4, a5, a6, a7, a8])) W) :
  bodyPost Tryz.prog Tryz.f78 R .ret { tmps := tm, defers := [] } W := by
 obtain ⟨g0, g1, g2, g3, g4, g5, g6, g7, g8, _⟩ := hV.cells9
 exact bodyPost_ret (v := .agg #[a0, a1, a2, a3, a4, a5, a6, a7, a8]) (by simp [results, Tryz.results78, go_sem, h2, g0, g1, g2, g3, g4, g5, g6, g7, g8]) rfl hR
theorem sneg_any (i1 : Int) (s1 : Bool) (p1 : Option Addr) (k1 c1 : Nat) (q1 : Option Addr) (l1 d1 : Nat) (j1 : Int) (sz1 : Bool) (pz1 : Option Addr) (kz1 cz1 : Nat) (qz1 : Option Addr) (lz1 dz1 : Nat) (e1 : Bool) (x : (Int × Bool × Nat × Nat) × (Int × Bool × Nat × Nat) × Bool) (A : Nat) (w : World) (h : SRep w (.agg #[.int .i64 i1, .bool s1, .slice p1 k1 c1, .slice q1 l1 d1, .int .i64 j1, .bool sz1, .slice pz1 kz1 cz1, .slice qz1 lz1 dz1, .bool e1]) x) (hx : EOk A x.1 ∧ EOk A x.2.1) :
  Calls Tryz.prog 78 #[.agg #[.int .i64 i1, .bool s1, .slice p1 k1 c1, .slice q1 l1 d1, .int .i64 j1, .bool sz1, .slice pz1 kz1 cz1, .slice qz1 lz1 dz1, .bool e1]] w fun e w' => ∃ i3 s3 p3 k3 c3 q3 l3 d3 j3 sz3 pz3 kz3 cz3 qz3 lz3 dz3 e3, e = .returned (.agg #[.int .i64 i3, .bool s3, .slice p3 k3 c3, .slice q3 l3 d3, .int .i64 j3, .bool sz3, .slice pz3 kz3 cz3, .slice qz3 lz3 dz3, .bool e3]) ∧ Hid (SRep w' (.agg #[.int .i64 i3, .bool s3, .slice p3 k3 c3, .slice q3 l3 d3, .int .i64 j3, .bool sz3, .slice pz3 kz3 cz3, .slice qz3 lz3 dz3, .bool e3]) (sneg x)) ∧ Below w.heap.size w w' := by
 have h1 := h.ends
 have HL := hid (fun (W : World) (hW : Below w.heap.size w W) => eneg_any i1 s1 p1 k1 c1 q1 l1 d1 x.1 A W (h1.1.below hW) hx.1)
 have HH := hid (fun (W : World) (hW : Below w.heap.size w W) => eneg_any j1 sz1 pz1 kz1 cz1 qz1 lz1 dz1 x.2.1 A W (h1.2.1.below hW) hx.2)
 obtain ⟨r, hr⟩ : ∃ r, r = sneg x := ⟨_, rfl⟩
 obtain ⟨rl, hrl⟩ : ∃ r, r = eneg x.1 := ⟨_, rfl⟩
 obtain ⟨rh, hrh⟩ : ∃ r, r = eneg x.2.1 := ⟨_, rfl⟩
 rw [← hr]
 rw [← hrl] at HL
 rw [← hrh] at HH
 have HX : Hid (r = (rh, rl, false)) := hid (by rw [hr, hrl, hrh]; rfl)
 clear hr hrl hrh h hx h1
 go_enter Tryz.func78, Tryz.ntmps78
 go_upto_region 1 with fail
 have HV := hid (pre2 w [.int .i64 i1, .bool s1, .slice p1 k1 c1, .slice q1 l1 d1, .int .i64 j1, .bool sz1, .slice pz1 kz1 cz1, .slice qz1 lz1 dz1, .bool e1] [.int .i64 0, .bool false, .slice none 0 0, .slice none 0 0, .int .i64 0, .bool false, .slice none 0 0, .slice none 0 0, .bool false] 65 65 nd9 nd9)
 generalize (w.alloc (.cells #[.int .i64 i1, .bool s1, .slice p1 k1 c1, .slice q1 l1 d1, .int .i64 j1, .bool sz1, .slice pz1 kz1 cz1, .slice qz1 lz1 dz1, .bool e1] 65)).alloc (.cells #[.int .i64 0, .bool false, .slice none 0 0, .slice none 0 0, .int .i64 0, .bool false, .slice none 0 0, .slice none 0 0, .bool false] 65) = W0 at *
 have HQ := hid (QQ.i1 (cs := [.int .i64 i1, .bool s1, .slice p1 k1 c1, .slice q1 l1 d1, .int .i64 j1, .bool sz1, .slice pz1 kz1 cz1, .slice qz1 lz1 dz1, .bool e1]) HV.out.1 HV.out.2.2)
 have HS := hid (fun (w' : World) (hb : QQ w [(w.heap.size, [.int .i64 i1, .bool s1, .slice p1 k1 c1, .slice q1 l1 d1, .int .i64 j1, .bool sz1, .slice pz1 kz1 cz1, .slice qz1 lz1 dz1, .bool e1])] w') => hb.s_9)
 have HN : Hid (Apart [(w.heap.size, [.int .i64 i1, .bool s1, .slice p1 k1 c1, .slice q1 l1 d1, .int .i64 j1, .bool sz1, .slice pz1 kz1 cz1, .slice qz1 lz1 dz1, .bool e1])] (w.heap.size + 1)) := hid (ne1 (by omega))
 have HI : Hid (w.heap.size ≤ w.heap.size + 1) := hid (by omega)
 go_region_held3 (fun w' => w'.cell? ⟨w.heap.size, 0, none⟩ = some (.int .i64 i1) ∧ w'.cell? ⟨w.heap.size, 1, none⟩ = some (.bool s1) ∧ w'.cell? ⟨w.heap.size, 2, none⟩ = some (.slice p1 k1 c1) ∧ w'.cell? ⟨w.heap.size, 3, none⟩ = some (.slice q1 l1 d1) ∧ w'.cell? ⟨w.heap.size, 4, none⟩ = some (.int .i64 j1) ∧ w'.cell? ⟨w.heap.size, 5, none⟩ = some (.bool sz1) ∧ w'.cell? ⟨w.heap.size, 6, none⟩ = some (.slice pz1 kz1 cz1) ∧ w'.cell? ⟨w.heap.size, 7, none⟩ = some (.slice qz1 lz1 dz1) ∧ w'.cell? ⟨w.heap.size, 8, none⟩ = some (.bool e1) ∧ Hid (QQ w [(w.heap.size, [.int .i64 i1, .bool s1, .slice p1 k1 c1, .slice q1 l1 d1, .int .i64 j1, .bool sz1, .slice pz1 kz1 cz1, .slice qz1 lz1 dz1, .bool e1])] w'))
  (first | (refine HS.out _ ?_; first | (with_reducible exact HQ.out.drew) | (with_reducible assumption) | (with_reducible refine QQ.st9 ?_ HN.out HI.out; assumption)))
  (first
   | (go_at_call_of 140 pz1; refine (HH.out _ HQ.out.drew.bel).mono ?_; rintro e wa ⟨i4, s4, p4, k4, c4, q4, l4, d4, rfl, hE1, hB1⟩; have hQ1 := HQ.out.drew.call hB1; have hV1 := (HV.out.2.1.drew).below hB1)
   | (go_at_call_of 140 p1; refine (HL.out _ hQ1.bel).mono ?_; rintro e wb ⟨i5, s5, p5, k5, c5, q5, l5, d5, rfl, hE2, hB2⟩; have hQ2 := hQ1.call hB2; have hV2 := hV1.below hB2; obtain ⟨g0, g1, g2, g3, g4, g5, g6, g7, g8, f0, f1, f2, f3, f4, f5, f6, f7, f8⟩ := hV2.cells9))
 rename_i hHeld
 clear hHeld
 have HE := hid (And.intro hV2 (And.intro (hE1.out.below hB2) (And.intro hE2.out hQ2.bel)))
 clear hQ1 hQ2 hV1 hV2 hB1 hB2 hE1 hE2
 go_wp2_with fail
 exact sneg_ret rfl (HE.out.1.stores [.int .i64 i4, .bool s4, .slice p4 k4 c4, .slice q4 l4 d4, .int .i64 i5, .bool s5, .slice p5 k5 c5, .slice q5 l5 d5, .bool false] rfl nd9) ⟨_, _, _, _, _, _, _, _, _, _, _, _, _, _, _, _, _, rfl, hid ⟨_, _, _, _, _, _, _, _, _, _, _, _, _, _, _, _, _, rfl, by rw [HX.out]; exact ERep.stores (k := 0) (l := [.int .i64 i4, .bool s4, .slice p4 k4 c4, .slice q4 l4 d4, .int .i64 i5, .bool s5, .slice p5 k5 c5, .slice q5 l5 d5, .bool false]) HE.out.2.1 HE.out.1 nd9, by rw [HX.out]; exact ERep.stores (k := 0) (l := [.int .i64 i4, .bool s4, .slice p4 k4 c4, .slice q4 l4 d4, .int .i64 i5, .bool s5, .slice p5 k5 c5, .slice q5 l5 d5, .bool false]) HE.out.2.2.1 HE.out.1 nd9, by rw [HX.out]⟩, Below.stores (k := 0) (l := [.int .i64 i4, .bool s4, .slice p4 k4 c4, .slice q4 l4 d4, .int .i64 i5, .bool s5, .slice p5 k5 c5, .slice q5 l5 d5, .bool false]) HE.out.2.2.2 (by omega)⟩
end Go.Proofs.YtpdpabpdejmdbaaGreatDoor
