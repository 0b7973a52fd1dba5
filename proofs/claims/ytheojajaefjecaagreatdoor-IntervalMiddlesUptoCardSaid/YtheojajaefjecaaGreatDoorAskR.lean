/- Operations that end by a panic, with a rational number as result: Run, ask. -/
import Derived.Test.YtheojajaefjecaaGreatDoorIvC
import Derived.Test.YtheojajaefjecaaGreatDoorFin
import Derived.Test.YtheojajaefjecaaGreatDoorSets
set_option maxHeartbeats 2000000
set_option maxRecDepth 100000
namespace Go.Proofs.YtheojajaefjecaaGreatDoor
open Go.RowKit Dg
theorem catchR_panicking (p : Addr) (x c : Int) (older : List PanicEntry) (w : World) (hc : w.cell? p = some (.int .i64 x)) (hz : w.frozen? p = false) :
  CallsD Tryz.prog 145 #[.pointer (some p)] (.panicking ({ v := .iface 27 (.int .i64 c), recovered := false } :: older)) w fun e u' w' =>
   e = .returned (.tuple #[]) ∧ u' = .panicking ({ v := .iface 27 (.int .i64 c), recovered := true } :: older) ∧ w' = w.setCell p (.int .i64 c) := by
 refine callsD_of_wpS Tryz.func145 rfl fun c₀ cs hu => ?_
 apply wpS_seq
 apply wpS_region
 simp [wpOpsS, go_sem, recoverD, hu, Tryz.ntmps145, Exit.thenS]
 refine wpS_of_wp ?_
 have hta := assert_errno c
 go_wp2_with fail
 simp [bodyPostS, results, Tryz.results145]
theorem catchR_idle (p : Addr) (w : World) :
  CallsD Tryz.prog 145 #[.pointer (some p)] .returning w fun e u' w' => e = .returned (.tuple #[]) ∧ u' = .returning ∧ w' = w := by
 refine callsD_of_wpS Tryz.func145 rfl fun c₀ cs hu => ?_
 apply wpS_seq
 apply wpS_region
 simp [wpOpsS, go_sem, recoverD, hu, Tryz.ntmps145, Exit.thenS]
 refine wpS_of_wp ?_
 go_wp2_with fail
 cases c₀
 simp_all [bodyPostS, results, Tryz.results145]
theorem finR_ok (g : FuncId) (cap : Array Value) (D : Bool × Nat × Nat) (w : World) (hfn : ∀ args W, (callFunc g args).run Tryz.prog W = .ok (.enter g args) W)
  (hop : ∀ W, Below w.heap.size w W → Calls Tryz.prog g cap W fun e w' => ∃ s1 p1 k1 c1 q1 l1 d1, e = .returned (.agg #[.bool s1, .slice p1 k1 c1, .slice q1 l1 d1]) ∧ Hid (FNorm w' (.agg #[.bool s1, .slice p1 k1 c1, .slice q1 l1 d1]) D) ∧ Below W.heap.size W w') :
  Calls Tryz.prog 77 #[.func (.func g) #[] cap] w fun e w' => ∃ s1 p1 k1 c1 q1 l1 d1, e = .returned (.tuple #[.agg #[.bool s1, .slice p1 k1 c1, .slice q1 l1 d1], .int .i64 0]) ∧ Hid (FNorm w' (.agg #[.bool s1, .slice p1 k1 c1, .slice q1 l1 d1]) D) ∧ Below w.heap.size w w' := by
 have hmf := makeFunc_run
 have HO := hid hop
 clear hop
 go_enter_defers Tryz.func77, Tryz.ntmps77
 go_wp2_with fail
 have HV := hid (pre2 w [.bool false, .slice none 0 0, .slice none 0 0] [.int .i64 0] 24 27 nd3 nd1)
 generalize (w.alloc (.cells #[.bool false, .slice none 0 0, .slice none 0 0] 24)).alloc (.cells #[.int .i64 0] 27) = W0 at *
 refine (HO.out _ HV.out.2.2).mono ?_
 rintro e w1 ⟨s1, p1, k1, c1, q1, l1, d1, rfl, hG, hB⟩
 have HV1 := hid (HV.out.1.below hB)
 have HV2 := hid (HV.out.2.1.below hB)
 have HB := hid (HV.out.2.2.trans (hB.mono HV.out.2.2.size))
 clear hB
 have hne : w.heap.size ≠ w.heap.size + 1 := by omega
 have hne' : w.heap.size + 1 ≠ w.heap.size := by omega
 have HX : Hid (Box (stores w1 w.heap.size 0 [.bool s1, .slice p1 k1 c1, .slice q1 l1 d1]) w.heap.size #[.bool s1, .slice p1 k1 c1, .slice q1 l1 d1] ∧ Box (stores w1 w.heap.size 0 [.bool s1, .slice p1 k1 c1, .slice q1 l1 d1]) (w.heap.size + 1) #[.int .i64 0] ∧ FNorm (stores w1 w.heap.size 0 [.bool s1, .slice p1 k1 c1, .slice q1 l1 d1]) (.agg #[.bool s1, .slice p1 k1 c1, .slice q1 l1 d1]) D ∧ Below w.heap.size w (stores w1 w.heap.size 0 [.bool s1, .slice p1 k1 c1, .slice q1 l1 d1])) :=
  hid ⟨HV1.out.stores [.bool s1, .slice p1 k1 c1, .slice q1 l1 d1] rfl nd3, HV2.out.stores_other hne', hG.out.stores HV1.out nd3, Below.stores HB.out (Nat.le_refl _)⟩
 obtain ⟨g0, g1, g2, f0, f1, f2⟩ := HV1.out.cells3
 obtain ⟨u0, v0⟩ := HV2.out.cells1
 go_wp2_with fail
 change Leaves _ _ _ _ _ _ ((stores w1 w.heap.size 0 [.bool s1, .slice p1 k1 c1, .slice q1 l1 d1]).setCell ⟨w.heap.size + 1, 0, none⟩ (.int .i64 0))
 generalize stores w1 w.heap.size 0 [.bool s1, .slice p1 k1 c1, .slice q1 l1 d1] = w2 at *
 refine leaves_cons (f := 145) (args := #[.pointer (some ⟨w.heap.size + 1, 0, none⟩)]) (by simp) (by simp [go_sem]) ?_
 refine (catchR_idle ⟨w.heap.size + 1, 0, none⟩ _).mono ?_
 rintro e u' w'' ⟨rfl, rfl, rfl⟩
 have HL : Hid (FNorm (w2.setCell ⟨w.heap.size + 1, 0, none⟩ (.int .i64 0)) (.agg #[.bool s1, .slice p1 k1 c1, .slice q1 l1 d1]) D ∧ Below w.heap.size w (w2.setCell ⟨w.heap.size + 1, 0, none⟩ (.int .i64 0))) :=
  hid ⟨FNorm.stores (k := 0) (l := [.int .i64 0]) HX.out.2.2.1 HX.out.2.1 nd1, HX.out.2.2.2.setCell (Nat.le_succ _) _⟩
 have hVx : Box (w2.setCell ⟨w.heap.size + 1, 0, none⟩ (.int .i64 0)) (w.heap.size + 1) #[.int .i64 0] := HX.out.2.1.stores [.int .i64 0] rfl nd1
 have hVy : Box (w2.setCell ⟨w.heap.size + 1, 0, none⟩ (.int .i64 0)) w.heap.size #[.bool s1, .slice p1 k1 c1, .slice q1 l1 d1] := Box.stores_other (k := 0) (l := [.int .i64 0]) HX.out.1 hne
 generalize w2.setCell ⟨w.heap.size + 1, 0, none⟩ (.int .i64 0) = w3 at *
 obtain ⟨c0, _⟩ := hVx.cells1
 obtain ⟨d0, d1', d2, _⟩ := hVy.cells3
 refine leaves_nil (v := .tuple #[.agg #[.bool s1, .slice p1 k1 c1, .slice q1 l1 d1], .int .i64 0]) (by simp [results, Tryz.results77, go_sem, c0, d0, d1', d2]) ⟨s1, p1, k1, c1, q1, l1, d1, rfl, hid HL.out.1, HL.out.2⟩
theorem finR_err (g : FuncId) (cap : Array Value) (c : Int) (w : World) (hfn : ∀ args W, (callFunc g args).run Tryz.prog W = .ok (.enter g args) W)
  (hop : ∀ W, Below w.heap.size w W → Calls Tryz.prog g cap W fun e w' => e = pan c ∧ Below W.heap.size W w') :
  Calls Tryz.prog 77 #[.func (.func g) #[] cap] w fun e w' => e = .returned (.tuple #[.agg #[.bool false, .slice none 0 0, .slice none 0 0], .int .i64 c]) ∧ Below w.heap.size w w' := by
 have hmf := makeFunc_run
 have HO := hid hop
 clear hop
 go_enter_defers Tryz.func77, Tryz.ntmps77
 go_wp2_with fail
 have HV := hid (pre2 w [.bool false, .slice none 0 0, .slice none 0 0] [.int .i64 0] 24 27 nd3 nd1)
 generalize (w.alloc (.cells #[.bool false, .slice none 0 0, .slice none 0 0] 24)).alloc (.cells #[.int .i64 0] 27) = W0 at *
 refine (HO.out _ HV.out.2.2).mono ?_
 rintro e w1 ⟨rfl, hB⟩
 have HV1 := hid (HV.out.1.below hB)
 have HV2 := hid (HV.out.2.1.below hB)
 have HB := hid (HV.out.2.2.trans (hB.mono HV.out.2.2.size))
 clear hB
 have hne : w.heap.size ≠ w.heap.size + 1 := by omega
 obtain ⟨u0, v0⟩ := HV2.out.cells1
 unfold pan
 refine leaves_cons (f := 145) (args := #[.pointer (some ⟨w.heap.size + 1, 0, none⟩)]) (by simp) (by simp [go_sem]) ?_
 refine (catchR_panicking ⟨w.heap.size + 1, 0, none⟩ 0 c [] _ u0 v0).mono ?_
 rintro e u' w'' ⟨rfl, rfl, rfl⟩
 have HL : Hid (Below w.heap.size w (w1.setCell ⟨w.heap.size + 1, 0, none⟩ (.int .i64 c))) := hid (HB.out.setCell (Nat.le_succ _) _)
 have hVx : Box (w1.setCell ⟨w.heap.size + 1, 0, none⟩ (.int .i64 c)) (w.heap.size + 1) #[.int .i64 c] := HV2.out.stores [.int .i64 c] rfl nd1
 have hVy : Box (w1.setCell ⟨w.heap.size + 1, 0, none⟩ (.int .i64 c)) w.heap.size #[.bool false, .slice none 0 0, .slice none 0 0] := Box.stores_other (k := 0) (l := [.int .i64 c]) HV1.out hne
 generalize w1.setCell ⟨w.heap.size + 1, 0, none⟩ (.int .i64 c) = w3 at *
 obtain ⟨c0, _⟩ := hVx.cells1
 obtain ⟨d0, d1', d2, _⟩ := hVy.cells3
 refine leaves_nil (v := .tuple #[.agg #[.bool false, .slice none 0 0, .slice none 0 0], .int .i64 c]) (by simp [results, Tryz.results77, go_sem, c0, d0, d1', d2]) ⟨rfl, HL.out⟩
theorem ask1R_ret {W : World} {B : Nat} {a0 a1 a2 : Value} {tm : Array Value} {R : Ending → World → Prop} (h2 : tm[2]?.getD undef = .pointer (some ⟨B, 0, none⟩)) (hV : Box W B #[a0, a1, a2]) (hR : R (.returned (.agg #[a0, a1, a2])) W) :
  bodyPost Tryz.prog Tryz.f78 R .ret { tmps := tm, defers := [] } W := by
 obtain ⟨g0, g1, g2, _⟩ := hV.cells3
 exact bodyPost_ret (v := .agg #[a0, a1, a2]) (by simp [results, Tryz.results78, go_sem, h2, g0, g1, g2]) rfl hR
theorem ask1R_ok (Bo Ba : Nat) (s1 : Bool) (p1 : Option Addr) (k1 c1 : Nat) (q1 : Option Addr) (l1 d1 : Nat) (sz1 : Bool) (pz1 : Option Addr) (kz1 cz1 : Nat) (qz1 : Option Addr) (lz1 dz1 : Nat) (x1 : Bool) (y1 : Bool) (g : FuncId) (cap : Array Value) (a b : Bool × Nat × Nat) (D : Bool × Nat × Nat) (w : World)
  (hBo : Box w Bo #[.func (.func g) #[] cap]) (hBa : Box w Ba #[.bool s1, .slice p1 k1 c1, .slice q1 l1 d1, .bool sz1, .slice pz1 kz1 cz1, .slice qz1 lz1 dz1, .bool x1, .bool y1]) (ha : NRep w (.agg #[.bool s1, .slice p1 k1 c1, .slice q1 l1 d1]) a) (hb : NRep w (.agg #[.bool sz1, .slice pz1 kz1 cz1, .slice qz1 lz1 dz1]) b) (h1 : large a.2.1 a.2.2 = false) (h2 : large b.2.1 b.2.2 = false) (ht : TabOk w)
  (hfn : ∀ args W, (callFunc g args).run Tryz.prog W = .ok (.enter g args) W)
  (hop : ∀ W (i3 : Int) (s3 : Bool) (p3 : Option Addr) (k3 c3 : Nat) (q3 : Option Addr) (l3 d3 : Nat) (j3 : Int) (sz3 : Bool) (pz3 : Option Addr) (kz3 cz3 : Nat) (qz3 : Option Addr) (lz3 dz3 : Nat) (e3 : Bool), Below w.heap.size w W → SRep W (.agg #[.int .i64 i3, .bool s3, .slice p3 k3 c3, .slice q3 l3 d3, .int .i64 j3, .bool sz3, .slice pz3 kz3 cz3, .slice qz3 lz3 dz3, .bool e3]) (srd (a, b, x1, y1)) → Calls Tryz.prog g (#[.agg #[.int .i64 i3, .bool s3, .slice p3 k3 c3, .slice q3 l3 d3, .int .i64 j3, .bool sz3, .slice pz3 kz3 cz3, .slice qz3 lz3 dz3, .bool e3]] ++ cap) W fun e w' => ∃ s5 p5 k5 c5 q5 l5 d5, e = .returned (.agg #[.bool s5, .slice p5 k5 c5, .slice q5 l5 d5]) ∧ Hid (FNorm w' (.agg #[.bool s5, .slice p5 k5 c5, .slice q5 l5 d5]) D) ∧ Below W.heap.size W w') :
  Calls Tryz.prog 78 #[.pointer (some ⟨Bo, 0, none⟩), .pointer (some ⟨Ba, 0, none⟩)] w fun e w' => ∃ s5 p5 k5 c5 q5 l5 d5, e = .returned (.agg #[.bool s5, .slice p5 k5 c5, .slice q5 l5 d5]) ∧ Hid (FNorm w' (.agg #[.bool s5, .slice p5 k5 c5, .slice q5 l5 d5]) D) ∧ Below w.heap.size w w' := by
 have HR := hid (fun (W : World) (hW : Below w.heap.size w W) => readSet_ok s1 p1 k1 c1 q1 l1 d1 sz1 pz1 kz1 cz1 qz1 lz1 dz1 x1 y1 a b W (ha.below hW) (hb.below hW) h1 h2 (ht.below hW))
 have HO := hid hop
 clear ha hb h1 h2 ht hop
 have hlo := hBo.lt
 have hla := hBa.lt
 go_enter Tryz.func78, Tryz.ntmps78
 go_upto_region 1 with fail
 have HV := hid (pre1 w [.bool false, .slice none 0 0, .slice none 0 0] 24 nd3)
 generalize w.alloc (.cells #[.bool false, .slice none 0 0, .slice none 0 0] 24) = W0 at *
 have HQ := hid (QQ.i2 (cs := [.func (.func g) #[] cap]) (cs' := [.bool s1, .slice p1 k1 c1, .slice q1 l1 d1, .bool sz1, .slice pz1 kz1 cz1, .slice qz1 lz1 dz1, .bool x1, .bool y1]) (hBo.below HV.out.2) (hBa.below HV.out.2) HV.out.2)
 have HN : Hid (Apart [(Bo, [.func (.func g) #[] cap]), (Ba, [.bool s1, .slice p1 k1 c1, .slice q1 l1 d1, .bool sz1, .slice pz1 kz1 cz1, .slice qz1 lz1 dz1, .bool x1, .bool y1])] w.heap.size) := hid (ne2 (by omega) (by omega))
 have HI : Hid (w.heap.size ≤ w.heap.size) := hid (Nat.le_refl _)
 clear hBo hBa
 have HS := hid (fun (w' : World) (hb : QQ w [(Bo, [.func (.func g) #[] cap]), (Ba, [.bool s1, .slice p1 k1 c1, .slice q1 l1 d1, .bool sz1, .slice pz1 kz1 cz1, .slice qz1 lz1 dz1, .bool x1, .bool y1])] w') => hb.s_1_8)
 go_region_held3 (fun w' => w'.cell? ⟨Bo, 0, none⟩ = some (.func (.func g) #[] cap) ∧ w'.cell? ⟨Ba, 0, none⟩ = some (.bool s1) ∧ w'.cell? ⟨Ba, 1, none⟩ = some (.slice p1 k1 c1) ∧ w'.cell? ⟨Ba, 2, none⟩ = some (.slice q1 l1 d1) ∧ w'.cell? ⟨Ba, 3, none⟩ = some (.bool sz1) ∧ w'.cell? ⟨Ba, 4, none⟩ = some (.slice pz1 kz1 cz1) ∧ w'.cell? ⟨Ba, 5, none⟩ = some (.slice qz1 lz1 dz1) ∧ w'.cell? ⟨Ba, 6, none⟩ = some (.bool x1) ∧ w'.cell? ⟨Ba, 7, none⟩ = some (.bool y1) ∧ Hid (QQ w [(Bo, [.func (.func g) #[] cap]), (Ba, [.bool s1, .slice p1 k1 c1, .slice q1 l1 d1, .bool sz1, .slice pz1 kz1 cz1, .slice qz1 lz1 dz1, .bool x1, .bool y1])] w'))
  (first | (refine HS.out _ ?_; first | (with_reducible exact HQ.out.drew) | (with_reducible assumption) | (with_reducible refine QQ.st3 ?_ HN.out HI.out; assumption)))
  (first
   | (go_at_call 79; refine (HR.out _ HQ.out.drew.bel).mono ?_; rintro e wa ⟨i3, s3, p3, k3, c3, q3, l3, d3, j3, sz3, pz3, kz3, cz3, qz3, lz3, dz3, e3, rfl, hS, hB1⟩; have hQ1 := HQ.out.drew.call hB1; have hV1 := (HV.out.1.drew).below hB1)
   | (refine (HO.out _ i3 s3 p3 k3 c3 q3 l3 d3 j3 sz3 pz3 kz3 cz3 qz3 lz3 dz3 e3 hQ1.bel hS.out).mono ?_; rintro e wb ⟨s5, p5, k5, c5, q5, l5, d5, rfl, hG, hB2⟩; have hQ2 := hQ1.call hB2; have hV2 := hV1.below hB2; obtain ⟨g0, g1, g2, f0, f1, f2⟩ := hV2.cells3))
 rename_i hHeld
 clear hHeld
 have HE := hid (And.intro hV2 (And.intro hG.out hQ2.bel))
 clear hQ1 hQ2 hB1 hB2 hS hV1 hV2 hG
 go_wp2_with fail
 exact ask1R_ret rfl (HE.out.1.stores [.bool s5, .slice p5 k5 c5, .slice q5 l5 d5] rfl nd3) ⟨s5, p5, k5, c5, q5, l5, d5, rfl, hid (FNorm.stores (k := 0) (l := [.bool s5, .slice p5 k5 c5, .slice q5 l5 d5]) HE.out.2.1 HE.out.1 nd3), Below.stores (k := 0) (l := [.bool s5, .slice p5 k5 c5, .slice q5 l5 d5]) HE.out.2.2 (Nat.le_refl _)⟩
theorem ask1R_large (Bo Ba : Nat) (s1 : Bool) (p1 : Option Addr) (k1 c1 : Nat) (q1 : Option Addr) (l1 d1 : Nat) (sz1 : Bool) (pz1 : Option Addr) (kz1 cz1 : Nat) (qz1 : Option Addr) (lz1 dz1 : Nat) (x1 : Bool) (y1 : Bool) (g : FuncId) (cap : Array Value) (a b : Bool × Nat × Nat) (w : World)
  (hBo : Box w Bo #[.func (.func g) #[] cap]) (hBa : Box w Ba #[.bool s1, .slice p1 k1 c1, .slice q1 l1 d1, .bool sz1, .slice pz1 kz1 cz1, .slice qz1 lz1 dz1, .bool x1, .bool y1]) (ha : NRep w (.agg #[.bool s1, .slice p1 k1 c1, .slice q1 l1 d1]) a) (hb : NRep w (.agg #[.bool sz1, .slice pz1 kz1 cz1, .slice qz1 lz1 dz1]) b) (h1 : (large a.2.1 a.2.2 || large b.2.1 b.2.2) = true) (ht : TabOk w) :
  Calls Tryz.prog 78 #[.pointer (some ⟨Bo, 0, none⟩), .pointer (some ⟨Ba, 0, none⟩)] w fun e w' => e = pan 1 ∧ Below w.heap.size w w' := by
 have HR := hid (fun (W : World) (hW : Below w.heap.size w W) => readSet_pan s1 p1 k1 c1 q1 l1 d1 sz1 pz1 kz1 cz1 qz1 lz1 dz1 x1 y1 a b W (ha.below hW) (hb.below hW) h1 (ht.below hW))
 clear ha hb h1 ht
 have hlo := hBo.lt
 have hla := hBa.lt
 go_enter Tryz.func78, Tryz.ntmps78
 go_upto_region 1 with fail
 have HV := hid (pre1 w [.bool false, .slice none 0 0, .slice none 0 0] 24 nd3)
 generalize w.alloc (.cells #[.bool false, .slice none 0 0, .slice none 0 0] 24) = W0 at *
 have HQ := hid (QQ.i2 (cs := [.func (.func g) #[] cap]) (cs' := [.bool s1, .slice p1 k1 c1, .slice q1 l1 d1, .bool sz1, .slice pz1 kz1 cz1, .slice qz1 lz1 dz1, .bool x1, .bool y1]) (hBo.below HV.out.2) (hBa.below HV.out.2) HV.out.2)
 have HN : Hid (Apart [(Bo, [.func (.func g) #[] cap]), (Ba, [.bool s1, .slice p1 k1 c1, .slice q1 l1 d1, .bool sz1, .slice pz1 kz1 cz1, .slice qz1 lz1 dz1, .bool x1, .bool y1])] w.heap.size) := hid (ne2 (by omega) (by omega))
 have HI : Hid (w.heap.size ≤ w.heap.size) := hid (Nat.le_refl _)
 clear hBo hBa
 have HS := hid (fun (w' : World) (hb : QQ w [(Bo, [.func (.func g) #[] cap]), (Ba, [.bool s1, .slice p1 k1 c1, .slice q1 l1 d1, .bool sz1, .slice pz1 kz1 cz1, .slice qz1 lz1 dz1, .bool x1, .bool y1])] w') => hb.s_1_8)
 refine wp_region_held_drew (S := (fun w' => w'.cell? ⟨Bo, 0, none⟩ = some (.func (.func g) #[] cap) ∧ w'.cell? ⟨Ba, 0, none⟩ = some (.bool s1) ∧ w'.cell? ⟨Ba, 1, none⟩ = some (.slice p1 k1 c1) ∧ w'.cell? ⟨Ba, 2, none⟩ = some (.slice q1 l1 d1) ∧ w'.cell? ⟨Ba, 3, none⟩ = some (.bool sz1) ∧ w'.cell? ⟨Ba, 4, none⟩ = some (.slice pz1 kz1 cz1) ∧ w'.cell? ⟨Ba, 5, none⟩ = some (.slice qz1 lz1 dz1) ∧ w'.cell? ⟨Ba, 6, none⟩ = some (.bool x1) ∧ w'.cell? ⟨Ba, 7, none⟩ = some (.bool y1) ∧ Hid (QQ w [(Bo, [.func (.func g) #[] cap]), (Ba, [.bool s1, .slice p1 k1 c1, .slice q1 l1 d1, .bool sz1, .slice pz1 kz1 cz1, .slice qz1 lz1 dz1, .bool x1, .bool y1])] w'))) (by kernel_rfl) (HS.out _ HQ.out.drew) (fun hHeld => ?_)
 refine wpAnyH_take (i := 0) (v := ?vv0) rfl (by kernel_rfl) (by kernel_rfl) (by kernel_rfl) (fun _ _ _ h => h) (Or.inl ⟨by rfl, ?hy0⟩) (by assumption) ?_
 case hy0 => (intro w' hSw; (try dsimp only at hSw); go_simp; first | done | with_reducible rfl)
 simp only [Act.put]
 refine wpAnyH_take (i := 1) (v := ?vv1) rfl (by kernel_rfl) (by kernel_rfl) (by kernel_rfl) (fun _ _ _ h => h) (Or.inl ⟨by rfl, ?hy1⟩) (by assumption) ?_
 case hy1 => (intro w' hSw; (try dsimp only at hSw); go_simp; first | done | with_reducible rfl)
 simp only [Act.put]
 refine wpAnyH_ready (rs := [2]) (by kernel_rfl) (by simp) ?_
 refine AllReadyH.cons rfl (fun K hK => ?_) AllReadyH.nil
 go_simp
 go_at_call 79
 refine (HR.out _ HQ.out.drew.bel).mono ?_
 rintro e wa ⟨rfl, hB1⟩
 exact ⟨rfl, rfl, (HQ.out.drew.call hB1).bel⟩
theorem ask1R_err (Bo Ba : Nat) (s1 : Bool) (p1 : Option Addr) (k1 c1 : Nat) (q1 : Option Addr) (l1 d1 : Nat) (sz1 : Bool) (pz1 : Option Addr) (kz1 cz1 : Nat) (qz1 : Option Addr) (lz1 dz1 : Nat) (x1 : Bool) (y1 : Bool) (g : FuncId) (cap : Array Value) (a b : Bool × Nat × Nat) (r : Int) (w : World)
  (hBo : Box w Bo #[.func (.func g) #[] cap]) (hBa : Box w Ba #[.bool s1, .slice p1 k1 c1, .slice q1 l1 d1, .bool sz1, .slice pz1 kz1 cz1, .slice qz1 lz1 dz1, .bool x1, .bool y1]) (ha : NRep w (.agg #[.bool s1, .slice p1 k1 c1, .slice q1 l1 d1]) a) (hb : NRep w (.agg #[.bool sz1, .slice pz1 kz1 cz1, .slice qz1 lz1 dz1]) b) (h1 : large a.2.1 a.2.2 = false) (h2 : large b.2.1 b.2.2 = false) (ht : TabOk w)
  (hfn : ∀ args W, (callFunc g args).run Tryz.prog W = .ok (.enter g args) W)
  (hop : ∀ W (i3 : Int) (s3 : Bool) (p3 : Option Addr) (k3 c3 : Nat) (q3 : Option Addr) (l3 d3 : Nat) (j3 : Int) (sz3 : Bool) (pz3 : Option Addr) (kz3 cz3 : Nat) (qz3 : Option Addr) (lz3 dz3 : Nat) (e3 : Bool), Below w.heap.size w W → SRep W (.agg #[.int .i64 i3, .bool s3, .slice p3 k3 c3, .slice q3 l3 d3, .int .i64 j3, .bool sz3, .slice pz3 kz3 cz3, .slice qz3 lz3 dz3, .bool e3]) (srd (a, b, x1, y1)) → Calls Tryz.prog g (#[.agg #[.int .i64 i3, .bool s3, .slice p3 k3 c3, .slice q3 l3 d3, .int .i64 j3, .bool sz3, .slice pz3 kz3 cz3, .slice qz3 lz3 dz3, .bool e3]] ++ cap) W fun e w' => e = pan r ∧ Below W.heap.size W w') :
  Calls Tryz.prog 78 #[.pointer (some ⟨Bo, 0, none⟩), .pointer (some ⟨Ba, 0, none⟩)] w fun e w' => e = pan r ∧ Below w.heap.size w w' := by
 have HR := hid (fun (W : World) (hW : Below w.heap.size w W) => readSet_ok s1 p1 k1 c1 q1 l1 d1 sz1 pz1 kz1 cz1 qz1 lz1 dz1 x1 y1 a b W (ha.below hW) (hb.below hW) h1 h2 (ht.below hW))
 have HO := hid hop
 clear ha hb h1 h2 ht hop
 have hlo := hBo.lt
 have hla := hBa.lt
 go_enter Tryz.func78, Tryz.ntmps78
 go_upto_region 1 with fail
 have HV := hid (pre1 w [.bool false, .slice none 0 0, .slice none 0 0] 24 nd3)
 generalize w.alloc (.cells #[.bool false, .slice none 0 0, .slice none 0 0] 24) = W0 at *
 have HQ := hid (QQ.i2 (cs := [.func (.func g) #[] cap]) (cs' := [.bool s1, .slice p1 k1 c1, .slice q1 l1 d1, .bool sz1, .slice pz1 kz1 cz1, .slice qz1 lz1 dz1, .bool x1, .bool y1]) (hBo.below HV.out.2) (hBa.below HV.out.2) HV.out.2)
 have HN : Hid (Apart [(Bo, [.func (.func g) #[] cap]), (Ba, [.bool s1, .slice p1 k1 c1, .slice q1 l1 d1, .bool sz1, .slice pz1 kz1 cz1, .slice qz1 lz1 dz1, .bool x1, .bool y1])] w.heap.size) := hid (ne2 (by omega) (by omega))
 have HI : Hid (w.heap.size ≤ w.heap.size) := hid (Nat.le_refl _)
 clear hBo hBa
 have HS := hid (fun (w' : World) (hb : QQ w [(Bo, [.func (.func g) #[] cap]), (Ba, [.bool s1, .slice p1 k1 c1, .slice q1 l1 d1, .bool sz1, .slice pz1 kz1 cz1, .slice qz1 lz1 dz1, .bool x1, .bool y1])] w') => hb.s_1_8)
 refine wp_region_held_drew (S := (fun w' => w'.cell? ⟨Bo, 0, none⟩ = some (.func (.func g) #[] cap) ∧ w'.cell? ⟨Ba, 0, none⟩ = some (.bool s1) ∧ w'.cell? ⟨Ba, 1, none⟩ = some (.slice p1 k1 c1) ∧ w'.cell? ⟨Ba, 2, none⟩ = some (.slice q1 l1 d1) ∧ w'.cell? ⟨Ba, 3, none⟩ = some (.bool sz1) ∧ w'.cell? ⟨Ba, 4, none⟩ = some (.slice pz1 kz1 cz1) ∧ w'.cell? ⟨Ba, 5, none⟩ = some (.slice qz1 lz1 dz1) ∧ w'.cell? ⟨Ba, 6, none⟩ = some (.bool x1) ∧ w'.cell? ⟨Ba, 7, none⟩ = some (.bool y1) ∧ Hid (QQ w [(Bo, [.func (.func g) #[] cap]), (Ba, [.bool s1, .slice p1 k1 c1, .slice q1 l1 d1, .bool sz1, .slice pz1 kz1 cz1, .slice qz1 lz1 dz1, .bool x1, .bool y1])] w'))) (by kernel_rfl) (HS.out _ HQ.out.drew) (fun hHeld => ?_)
 refine wpAnyH_take (i := 0) (v := ?vv0) rfl (by kernel_rfl) (by kernel_rfl) (by kernel_rfl) (fun _ _ _ h => h) (Or.inl ⟨by rfl, ?hy0⟩) (by assumption) ?_
 case hy0 => (intro w' hSw; (try dsimp only at hSw); go_simp; first | done | with_reducible rfl)
 simp only [Act.put]
 refine wpAnyH_take (i := 1) (v := ?vv1) rfl (by kernel_rfl) (by kernel_rfl) (by kernel_rfl) (fun _ _ _ h => h) (Or.inl ⟨by rfl, ?hy1⟩) (by assumption) ?_
 case hy1 => (intro w' hSw; (try dsimp only at hSw); go_simp; first | done | with_reducible rfl)
 simp only [Act.put]
 refine wpAnyH_ready (rs := [2]) (by kernel_rfl) (by simp) ?_
 refine AllReadyH.cons rfl (fun K hK => ?_) AllReadyH.nil
 go_simp
 go_at_call 79
 refine (HR.out _ HQ.out.drew.bel).mono ?_
 rintro e wa ⟨i3, s3, p3, k3, c3, q3, l3, d3, j3, sz3, pz3, kz3, cz3, qz3, lz3, dz3, e3, rfl, hS, hB1⟩
 have hQ1 := HQ.out.drew.call hB1
 go_wp2_with fail
 refine hK.out _ _ ?_ (fun hHeld => ?_)
 ·exact HS.out _ (hQ1)
 clear hK K
 try simp only [Act.put, List.setIfInBounds_toArray, List.set_cons_zero, List.set_cons_succ]
 refine wpAnyH_ready (rs := [3]) (by kernel_rfl) (by simp) ?_
 refine AllReadyH.cons rfl (fun K hK => ?_) AllReadyH.nil
 go_simp
 refine (HO.out _ i3 s3 p3 k3 c3 q3 l3 d3 j3 sz3 pz3 kz3 cz3 qz3 lz3 dz3 e3 hQ1.bel hS.out).mono ?_
 rintro e wb ⟨rfl, hB2⟩
 exact ⟨rfl, rfl, (hQ1.call hB2).bel⟩
theorem enter_ask1R (args : Array Value) (w : World) : (callFunc 78 args).run Tryz.prog w = .ok (.enter 78 args) w := call_enter Tryz.func78 (by kernel_rfl) rfl args w
theorem askR_ret {W : World} {B : Nat} {a0 a1 a2 ev : Value} {tm : Array Value} {R : Ending → World → Prop} (h2 : tm[4]?.getD undef = .pointer (some ⟨B, 0, none⟩)) (h3 : tm[5]?.getD undef = ev) (hV : Box W B #[a0, a1, a2]) (hR : R (.returned (.tuple #[.agg #[a0, a1, a2], ev])) W) :
  bodyPost Tryz.prog Tryz.f31 R .ret { tmps := tm, defers := [] } W := by
 obtain ⟨g0, g1, g2, _⟩ := hV.cells3
 exact bodyPost_ret (v := .tuple #[.agg #[a0, a1, a2], ev]) (by simp [results, Tryz.results31, go_sem, h2, h3, g0, g1, g2]) rfl hR
theorem askR_any (s1 : Bool) (p1 : Option Addr) (k1 c1 : Nat) (q1 : Option Addr) (l1 d1 : Nat) (sz1 : Bool) (pz1 : Option Addr) (kz1 cz1 : Nat) (qz1 : Option Addr) (lz1 dz1 : Nat) (x1 : Bool) (y1 : Bool) (g : FuncId) (cap : Array Value) (D : Bool × Nat × Nat) (c : Int) (w : World)
  (hcl : ∀ W, Below w.heap.size w W → Box W w.heap.size #[.bool s1, .slice p1 k1 c1, .slice q1 l1 d1, .bool sz1, .slice pz1 kz1 cz1, .slice qz1 lz1 dz1, .bool x1, .bool y1] → Box W (w.heap.size + 1) #[.func (.func g) #[] cap] →
   Calls Tryz.prog 77 #[.func (.func 78) #[] #[.pointer (some ⟨w.heap.size + 1, 0, none⟩), .pointer (some ⟨w.heap.size, 0, none⟩)]] W fun e w' => ∃ s5 p5 k5 c5 q5 l5 d5, e = .returned (.tuple #[.agg #[.bool s5, .slice p5 k5 c5, .slice q5 l5 d5], .int .i64 c]) ∧ Hid (FNorm w' (.agg #[.bool s5, .slice p5 k5 c5, .slice q5 l5 d5]) D) ∧ Below W.heap.size W w') :
  Calls Tryz.prog 31 #[.agg #[.bool s1, .slice p1 k1 c1, .slice q1 l1 d1, .bool sz1, .slice pz1 kz1 cz1, .slice qz1 lz1 dz1, .bool x1, .bool y1], .func (.func g) #[] cap] w fun e w' => ∃ s5 p5 k5 c5 q5 l5 d5, e = .returned (.tuple #[.agg #[.bool s5, .slice p5 k5 c5, .slice q5 l5 d5], .int .i64 c]) ∧ Hid (FNorm w' (.agg #[.bool s5, .slice p5 k5 c5, .slice q5 l5 d5]) D) ∧ Below w.heap.size w w' := by
 have hmf := makeFunc_run
 have HC := hid hcl
 clear hcl
 go_enter Tryz.func31, Tryz.ntmps31
 go_wp2_with fail
 have HV := hid (pre3 w [.bool s1, .slice p1 k1 c1, .slice q1 l1 d1, .bool sz1, .slice pz1 kz1 cz1, .slice qz1 lz1 dz1, .bool x1, .bool y1] [.func (.func g) #[] cap] [.bool false, .slice none 0 0, .slice none 0 0] 26 51 24 nd8 nd1 nd3)
 generalize ((w.alloc (.cells #[.bool s1, .slice p1 k1 c1, .slice q1 l1 d1, .bool sz1, .slice pz1 kz1 cz1, .slice qz1 lz1 dz1, .bool x1, .bool y1] 26)).alloc (.cells #[.func (.func g) #[] cap] 51)).alloc (.cells #[.bool false, .slice none 0 0, .slice none 0 0] 24) = W0 at *
 refine (HC.out _ HV.out.2.2.2 HV.out.1 HV.out.2.1).mono ?_
 rintro e w1 ⟨s5, p5, k5, c5, q5, l5, d5, rfl, hG, hB1⟩
 have HE := hid (And.intro (HV.out.2.2.1.below hB1) (HV.out.2.2.2.trans (hB1.mono HV.out.2.2.2.size)))
 clear hB1
 obtain ⟨g0, g1, g2, f0, f1, f2⟩ := HE.out.1.cells3
 go_wp2_with fail
 exact askR_ret rfl rfl (HE.out.1.stores [.bool s5, .slice p5 k5 c5, .slice q5 l5 d5] rfl nd3) ⟨s5, p5, k5, c5, q5, l5, d5, rfl, hid (FNorm.stores (k := 0) (l := [.bool s5, .slice p5 k5 c5, .slice q5 l5 d5]) hG.out HE.out.1 nd3), Below.stores (k := 0) (l := [.bool s5, .slice p5 k5 c5, .slice q5 l5 d5]) HE.out.2 (by omega)⟩
theorem askR_ok (s1 : Bool) (p1 : Option Addr) (k1 c1 : Nat) (q1 : Option Addr) (l1 d1 : Nat) (sz1 : Bool) (pz1 : Option Addr) (kz1 cz1 : Nat) (qz1 : Option Addr) (lz1 dz1 : Nat) (x1 : Bool) (y1 : Bool) (g : FuncId) (cap : Array Value) (a b : Bool × Nat × Nat) (D : Bool × Nat × Nat) (w : World) (ha : NRep w (.agg #[.bool s1, .slice p1 k1 c1, .slice q1 l1 d1]) a) (hb : NRep w (.agg #[.bool sz1, .slice pz1 kz1 cz1, .slice qz1 lz1 dz1]) b) (h1 : large a.2.1 a.2.2 = false) (h2 : large b.2.1 b.2.2 = false) (ht : TabOk w)
  (hfn : ∀ args W, (callFunc g args).run Tryz.prog W = .ok (.enter g args) W)
  (hop : ∀ W (i3 : Int) (s3 : Bool) (p3 : Option Addr) (k3 c3 : Nat) (q3 : Option Addr) (l3 d3 : Nat) (j3 : Int) (sz3 : Bool) (pz3 : Option Addr) (kz3 cz3 : Nat) (qz3 : Option Addr) (lz3 dz3 : Nat) (e3 : Bool), Below w.heap.size w W → SRep W (.agg #[.int .i64 i3, .bool s3, .slice p3 k3 c3, .slice q3 l3 d3, .int .i64 j3, .bool sz3, .slice pz3 kz3 cz3, .slice qz3 lz3 dz3, .bool e3]) (srd (a, b, x1, y1)) → Calls Tryz.prog g (#[.agg #[.int .i64 i3, .bool s3, .slice p3 k3 c3, .slice q3 l3 d3, .int .i64 j3, .bool sz3, .slice pz3 kz3 cz3, .slice qz3 lz3 dz3, .bool e3]] ++ cap) W fun e w' => ∃ s5 p5 k5 c5 q5 l5 d5, e = .returned (.agg #[.bool s5, .slice p5 k5 c5, .slice q5 l5 d5]) ∧ Hid (FNorm w' (.agg #[.bool s5, .slice p5 k5 c5, .slice q5 l5 d5]) D) ∧ Below W.heap.size W w') :
  Calls Tryz.prog 31 #[.agg #[.bool s1, .slice p1 k1 c1, .slice q1 l1 d1, .bool sz1, .slice pz1 kz1 cz1, .slice qz1 lz1 dz1, .bool x1, .bool y1], .func (.func g) #[] cap] w fun e w' => ∃ s5 p5 k5 c5 q5 l5 d5, e = .returned (.tuple #[.agg #[.bool s5, .slice p5 k5 c5, .slice q5 l5 d5], .int .i64 0]) ∧ Hid (FNorm w' (.agg #[.bool s5, .slice p5 k5 c5, .slice q5 l5 d5]) D) ∧ Below w.heap.size w w' :=
 askR_any s1 p1 k1 c1 q1 l1 d1 sz1 pz1 kz1 cz1 qz1 lz1 dz1 x1 y1 g cap D 0 w fun W hW hBa hBo =>
  finR_ok _ _ D W enter_ask1R fun W3 hW3 => ask1R_ok (w.heap.size + 1) w.heap.size s1 p1 k1 c1 q1 l1 d1 sz1 pz1 kz1 cz1 qz1 lz1 dz1 x1 y1 g cap a b D W3 (hBo.below hW3) (hBa.below hW3) ((ha.below hW).below hW3) ((hb.below hW).below hW3) h1 h2 ((ht.below hW).below hW3) hfn
   fun W4 i3 s3 p3 k3 c3 q3 l3 d3 j3 sz3 pz3 kz3 cz3 qz3 lz3 dz3 e3 hW4 hS => hop W4 i3 s3 p3 k3 c3 q3 l3 d3 j3 sz3 pz3 kz3 cz3 qz3 lz3 dz3 e3 ((hW.trans (hW3.mono hW.size)).trans (hW4.mono (hW.trans (hW3.mono hW.size)).size)) hS
theorem finR_zero {f : FuncId} {args : Array Value} {w : World} {c : Int} (h : Calls Tryz.prog f args w fun e w' => e = .returned (.tuple #[.agg #[.bool false, .slice none 0 0, .slice none 0 0], .int .i64 c]) ∧ Below w.heap.size w w') :
  Calls Tryz.prog f args w fun e w' => ∃ s5 p5 k5 c5 q5 l5 d5, e = .returned (.tuple #[.agg #[.bool s5, .slice p5 k5 c5, .slice q5 l5 d5], .int .i64 c]) ∧ Hid (FNorm w' (.agg #[.bool s5, .slice p5 k5 c5, .slice q5 l5 d5]) (false, 0, 0)) ∧ Below w.heap.size w w' := by
 refine h.mono ?_
 rintro e w' ⟨rfl, hB⟩
 exact ⟨_, _, _, _, _, _, _, rfl, hid ⟨_, _, rfl, Rep.nil, Rep.nil⟩, hB⟩
theorem askR_large (s1 : Bool) (p1 : Option Addr) (k1 c1 : Nat) (q1 : Option Addr) (l1 d1 : Nat) (sz1 : Bool) (pz1 : Option Addr) (kz1 cz1 : Nat) (qz1 : Option Addr) (lz1 dz1 : Nat) (x1 : Bool) (y1 : Bool) (g : FuncId) (cap : Array Value) (a b : Bool × Nat × Nat) (w : World) (ha : NRep w (.agg #[.bool s1, .slice p1 k1 c1, .slice q1 l1 d1]) a) (hb : NRep w (.agg #[.bool sz1, .slice pz1 kz1 cz1, .slice qz1 lz1 dz1]) b) (h1 : (large a.2.1 a.2.2 || large b.2.1 b.2.2) = true) (ht : TabOk w) :
  Calls Tryz.prog 31 #[.agg #[.bool s1, .slice p1 k1 c1, .slice q1 l1 d1, .bool sz1, .slice pz1 kz1 cz1, .slice qz1 lz1 dz1, .bool x1, .bool y1], .func (.func g) #[] cap] w fun e w' => ∃ s5 p5 k5 c5 q5 l5 d5, e = .returned (.tuple #[.agg #[.bool s5, .slice p5 k5 c5, .slice q5 l5 d5], .int .i64 1]) ∧ Hid (FNorm w' (.agg #[.bool s5, .slice p5 k5 c5, .slice q5 l5 d5]) (false, 0, 0)) ∧ Below w.heap.size w w' :=
 askR_any s1 p1 k1 c1 q1 l1 d1 sz1 pz1 kz1 cz1 qz1 lz1 dz1 x1 y1 g cap (false, 0, 0) 1 w fun W hW hBa hBo =>
  finR_zero (finR_err _ _ 1 W enter_ask1R fun W3 hW3 => ask1R_large (w.heap.size + 1) w.heap.size s1 p1 k1 c1 q1 l1 d1 sz1 pz1 kz1 cz1 qz1 lz1 dz1 x1 y1 g cap a b W3 (hBo.below hW3) (hBa.below hW3) ((ha.below hW).below hW3) ((hb.below hW).below hW3) h1 ((ht.below hW).below hW3))
theorem askR_err (s1 : Bool) (p1 : Option Addr) (k1 c1 : Nat) (q1 : Option Addr) (l1 d1 : Nat) (sz1 : Bool) (pz1 : Option Addr) (kz1 cz1 : Nat) (qz1 : Option Addr) (lz1 dz1 : Nat) (x1 : Bool) (y1 : Bool) (g : FuncId) (cap : Array Value) (a b : Bool × Nat × Nat) (c : Int) (w : World) (ha : NRep w (.agg #[.bool s1, .slice p1 k1 c1, .slice q1 l1 d1]) a) (hb : NRep w (.agg #[.bool sz1, .slice pz1 kz1 cz1, .slice qz1 lz1 dz1]) b) (h1 : large a.2.1 a.2.2 = false) (h2 : large b.2.1 b.2.2 = false) (ht : TabOk w)
  (hfn : ∀ args W, (callFunc g args).run Tryz.prog W = .ok (.enter g args) W)
  (hop : ∀ W (i3 : Int) (s3 : Bool) (p3 : Option Addr) (k3 c3 : Nat) (q3 : Option Addr) (l3 d3 : Nat) (j3 : Int) (sz3 : Bool) (pz3 : Option Addr) (kz3 cz3 : Nat) (qz3 : Option Addr) (lz3 dz3 : Nat) (e3 : Bool), Below w.heap.size w W → SRep W (.agg #[.int .i64 i3, .bool s3, .slice p3 k3 c3, .slice q3 l3 d3, .int .i64 j3, .bool sz3, .slice pz3 kz3 cz3, .slice qz3 lz3 dz3, .bool e3]) (srd (a, b, x1, y1)) → Calls Tryz.prog g (#[.agg #[.int .i64 i3, .bool s3, .slice p3 k3 c3, .slice q3 l3 d3, .int .i64 j3, .bool sz3, .slice pz3 kz3 cz3, .slice qz3 lz3 dz3, .bool e3]] ++ cap) W fun e w' => e = pan c ∧ Below W.heap.size W w') :
  Calls Tryz.prog 31 #[.agg #[.bool s1, .slice p1 k1 c1, .slice q1 l1 d1, .bool sz1, .slice pz1 kz1 cz1, .slice qz1 lz1 dz1, .bool x1, .bool y1], .func (.func g) #[] cap] w fun e w' => ∃ s5 p5 k5 c5 q5 l5 d5, e = .returned (.tuple #[.agg #[.bool s5, .slice p5 k5 c5, .slice q5 l5 d5], .int .i64 c]) ∧ Hid (FNorm w' (.agg #[.bool s5, .slice p5 k5 c5, .slice q5 l5 d5]) (false, 0, 0)) ∧ Below w.heap.size w w' :=
 askR_any s1 p1 k1 c1 q1 l1 d1 sz1 pz1 kz1 cz1 qz1 lz1 dz1 x1 y1 g cap (false, 0, 0) c w fun W hW hBa hBo =>
  finR_zero (finR_err _ _ c W enter_ask1R fun W3 hW3 => ask1R_err (w.heap.size + 1) w.heap.size s1 p1 k1 c1 q1 l1 d1 sz1 pz1 kz1 cz1 qz1 lz1 dz1 x1 y1 g cap a b c W3 (hBo.below hW3) (hBa.below hW3) ((ha.below hW).below hW3) ((hb.below hW).below hW3) h1 h2 ((ht.below hW).below hW3) hfn
   fun W4 i3 s3 p3 k3 c3 q3 l3 d3 j3 sz3 pz3 kz3 cz3 qz3 lz3 dz3 e3 hW4 hS => hop W4 i3 s3 p3 k3 c3 q3 l3 d3 j3 sz3 pz3 kz3 cz3 qz3 lz3 dz3 e3 ((hW.trans (hW3.mono hW.size)).trans (hW4.mono (hW.trans (hW3.mono hW.size)).size)) hS)
end Go.Proofs.YtheojajaefjecaaGreatDoor
