/- Whether a number is in an interval: ask, Has. -/
import Derived.Test.YtheojajaefjecaaGreatDoorHasP
import Derived.Test.YtheojajaefjecaaGreatDoorFin
set_option maxHeartbeats 4000000
set_option maxRecDepth 100000
namespace Go.Proofs.YtheojajaefjecaaGreatDoor
open Go.RowKit Dg
theorem ask1B_ok (Bo Ba : Nat) (s1 : Bool) (p1 : Option Addr) (k1 c1 : Nat) (q1 : Option Addr) (l1 d1 : Nat) (sz1 : Bool) (pz1 : Option Addr) (kz1 cz1 : Nat) (qz1 : Option Addr) (lz1 dz1 : Nat) (x1 : Bool) (y1 : Bool) (g : FuncId) (cap : Array Value) (a b : Bool × Nat × Nat) (r : Bool) (w : World)
  (hBo : Box w Bo #[.func (.func g) #[] cap]) (hBa : Box w Ba #[.bool s1, .slice p1 k1 c1, .slice q1 l1 d1, .bool sz1, .slice pz1 kz1 cz1, .slice qz1 lz1 dz1, .bool x1, .bool y1]) (ha : NRep w (.agg #[.bool s1, .slice p1 k1 c1, .slice q1 l1 d1]) a) (hb : NRep w (.agg #[.bool sz1, .slice pz1 kz1 cz1, .slice qz1 lz1 dz1]) b) (h1 : large a.2.1 a.2.2 = false) (h2 : large b.2.1 b.2.2 = false) (ht : TabOk w)
  (hfn : ∀ args W, (callFunc g args).run Tryz.prog W = .ok (.enter g args) W)
  (hop : ∀ W (i3 : Int) (s3 : Bool) (p3 : Option Addr) (k3 c3 : Nat) (q3 : Option Addr) (l3 d3 : Nat) (j3 : Int) (sz3 : Bool) (pz3 : Option Addr) (kz3 cz3 : Nat) (qz3 : Option Addr) (lz3 dz3 : Nat) (e3 : Bool), Below w.heap.size w W → SRep W (.agg #[.int .i64 i3, .bool s3, .slice p3 k3 c3, .slice q3 l3 d3, .int .i64 j3, .bool sz3, .slice pz3 kz3 cz3, .slice qz3 lz3 dz3, .bool e3]) (srd (a, b, x1, y1)) → Calls Tryz.prog g (#[.agg #[.int .i64 i3, .bool s3, .slice p3 k3 c3, .slice q3 l3 d3, .int .i64 j3, .bool sz3, .slice pz3 kz3 cz3, .slice qz3 lz3 dz3, .bool e3]] ++ cap) W fun e w' => e = .returned (.bool r) ∧ Below W.heap.size W w') :
  Calls Tryz.prog 101 #[.pointer (some ⟨Bo, 0, none⟩), .pointer (some ⟨Ba, 0, none⟩)] w fun e w' => e = .returned (.bool r) ∧ Below w.heap.size w w' := by
 have HR := hid (fun (W : World) (hW : Below w.heap.size w W) => readSet_ok s1 p1 k1 c1 q1 l1 d1 sz1 pz1 kz1 cz1 qz1 lz1 dz1 x1 y1 a b W (ha.below hW) (hb.below hW) h1 h2 (ht.below hW))
 have HO := hid hop
 have HQ := hid (QQ.i2 (cs := [.func (.func g) #[] cap]) (cs' := [.bool s1, .slice p1 k1 c1, .slice q1 l1 d1, .bool sz1, .slice pz1 kz1 cz1, .slice qz1 lz1 dz1, .bool x1, .bool y1]) hBo hBa (Below.refl w.heap.size w))
 clear ha hb h1 h2 ht hop
 have hlo := hBo.lt
 have hla := hBa.lt
 clear hBo hBa
 go_enter Tryz.func101, Tryz.ntmps101
 go_upto_region 1 with fail
 have HS := hid (fun (w' : World) (hb : QQ w [(Bo, [.func (.func g) #[] cap]), (Ba, [.bool s1, .slice p1 k1 c1, .slice q1 l1 d1, .bool sz1, .slice pz1 kz1 cz1, .slice qz1 lz1 dz1, .bool x1, .bool y1])] w') => hb.s_1_8)
 go_region_held3 (fun w' => w'.cell? ⟨Bo, 0, none⟩ = some (.func (.func g) #[] cap) ∧ w'.cell? ⟨Ba, 0, none⟩ = some (.bool s1) ∧ w'.cell? ⟨Ba, 1, none⟩ = some (.slice p1 k1 c1) ∧ w'.cell? ⟨Ba, 2, none⟩ = some (.slice q1 l1 d1) ∧ w'.cell? ⟨Ba, 3, none⟩ = some (.bool sz1) ∧ w'.cell? ⟨Ba, 4, none⟩ = some (.slice pz1 kz1 cz1) ∧ w'.cell? ⟨Ba, 5, none⟩ = some (.slice qz1 lz1 dz1) ∧ w'.cell? ⟨Ba, 6, none⟩ = some (.bool x1) ∧ w'.cell? ⟨Ba, 7, none⟩ = some (.bool y1) ∧ Hid (QQ w [(Bo, [.func (.func g) #[] cap]), (Ba, [.bool s1, .slice p1 k1 c1, .slice q1 l1 d1, .bool sz1, .slice pz1 kz1 cz1, .slice qz1 lz1 dz1, .bool x1, .bool y1])] w'))
  (first | (refine HS.out _ ?_; first | (with_reducible exact HQ.out.drew) | (with_reducible assumption)))
  (first
   | (go_at_call 79; refine (HR.out _ HQ.out.drew.bel).mono ?_; rintro e wa ⟨i3, s3, p3, k3, c3, q3, l3, d3, j3, sz3, pz3, kz3, cz3, qz3, lz3, dz3, e3, rfl, hS, hB1⟩; have hQ1 := HQ.out.drew.call hB1)
   | (refine (HO.out _ i3 s3 p3 k3 c3 q3 l3 d3 j3 sz3 pz3 kz3 cz3 qz3 lz3 dz3 e3 hQ1.bel hS.out).mono ?_; rintro e wb ⟨rfl, hB2⟩; have hQ2 := hQ1.call hB2))
 rename_i hHeld
 clear hHeld
 have HE := hid hQ2.bel
 clear hQ1 hQ2 hB1 hB2 hS
 go_wp2_with fail
 go_ret
 exact ⟨rfl, HE.out⟩
theorem ask1B_large (Bo Ba : Nat) (s1 : Bool) (p1 : Option Addr) (k1 c1 : Nat) (q1 : Option Addr) (l1 d1 : Nat) (sz1 : Bool) (pz1 : Option Addr) (kz1 cz1 : Nat) (qz1 : Option Addr) (lz1 dz1 : Nat) (x1 : Bool) (y1 : Bool) (g : FuncId) (cap : Array Value) (a b : Bool × Nat × Nat) (w : World)
  (hBo : Box w Bo #[.func (.func g) #[] cap]) (hBa : Box w Ba #[.bool s1, .slice p1 k1 c1, .slice q1 l1 d1, .bool sz1, .slice pz1 kz1 cz1, .slice qz1 lz1 dz1, .bool x1, .bool y1]) (ha : NRep w (.agg #[.bool s1, .slice p1 k1 c1, .slice q1 l1 d1]) a) (hb : NRep w (.agg #[.bool sz1, .slice pz1 kz1 cz1, .slice qz1 lz1 dz1]) b) (h1 : (large a.2.1 a.2.2 || large b.2.1 b.2.2) = true) (ht : TabOk w) :
  Calls Tryz.prog 101 #[.pointer (some ⟨Bo, 0, none⟩), .pointer (some ⟨Ba, 0, none⟩)] w fun e w' => e = pan 1 ∧ Below w.heap.size w w' := by
 have HR := hid (fun (W : World) (hW : Below w.heap.size w W) => readSet_pan s1 p1 k1 c1 q1 l1 d1 sz1 pz1 kz1 cz1 qz1 lz1 dz1 x1 y1 a b W (ha.below hW) (hb.below hW) h1 (ht.below hW))
 have HQ := hid (QQ.i2 (cs := [.func (.func g) #[] cap]) (cs' := [.bool s1, .slice p1 k1 c1, .slice q1 l1 d1, .bool sz1, .slice pz1 kz1 cz1, .slice qz1 lz1 dz1, .bool x1, .bool y1]) hBo hBa (Below.refl w.heap.size w))
 clear ha hb h1 ht
 have hlo := hBo.lt
 have hla := hBa.lt
 clear hBo hBa
 go_enter Tryz.func101, Tryz.ntmps101
 go_upto_region 1 with fail
 have HS := hid (fun (w' : World) (hb : QQ w [(Bo, [.func (.func g) #[] cap]), (Ba, [.bool s1, .slice p1 k1 c1, .slice q1 l1 d1, .bool sz1, .slice pz1 kz1 cz1, .slice qz1 lz1 dz1, .bool x1, .bool y1])] w') => hb.s_1_8)
 refine wp_region_held_drew (S := (fun w' => w'.cell? ⟨Bo, 0, none⟩ = some (.func (.func g) #[] cap) ∧ w'.cell? ⟨Ba, 0, none⟩ = some (.bool s1) ∧ w'.cell? ⟨Ba, 1, none⟩ = some (.slice p1 k1 c1) ∧ w'.cell? ⟨Ba, 2, none⟩ = some (.slice q1 l1 d1) ∧ w'.cell? ⟨Ba, 3, none⟩ = some (.bool sz1) ∧ w'.cell? ⟨Ba, 4, none⟩ = some (.slice pz1 kz1 cz1) ∧ w'.cell? ⟨Ba, 5, none⟩ = some (.slice qz1 lz1 dz1) ∧ w'.cell? ⟨Ba, 6, none⟩ = some (.bool x1) ∧ w'.cell? ⟨Ba, 7, none⟩ = some (.bool y1) ∧ Hid (QQ w [(Bo, [.func (.func g) #[] cap]), (Ba, [.bool s1, .slice p1 k1 c1, .slice q1 l1 d1, .bool sz1, .slice pz1 kz1 cz1, .slice qz1 lz1 dz1, .bool x1, .bool y1])] w'))) (by kernel_rfl) (HS.out _ HQ.out.drew) (fun hHeld => ?_)
 refine wpAnyH_take (i := 0) (v := ?vv0) rfl (by kernel_rfl) (by kernel_rfl) (by kernel_rfl) (fun _ _ _ h => h) (Or.inl ⟨by rfl, ?hy0⟩) (by assumption) ?_
 case hy0 => (intro w' hSw; (try dsimp only at hSw); go_simp; first | done | with_reducible rfl)
 simp only [Act.put]
 refine wpAnyH_take (i := 1) (v := ?vv1) rfl (by kernel_rfl) (by kernel_rfl) (by kernel_rfl) (fun _ _ _ h => h) (Or.inl ⟨by rfl, ?hy1⟩) (by assumption) ?_
 case hy1 => (intro w' hSw; (try dsimp only at hSw); go_simp; first | done | with_reducible rfl)
 simp only [Act.put]
 refine wpAnyH_ready (rs := [2]) (by kernel_rfl) (by simp) ?_
 refine AllReadyH.cons rfl (fun K hK => ?_) AllReadyH.nil
 go_simp
 go_at_call 79
 refine (HR.out _ HQ.out.drew.bel).mono ?_
 rintro e wa ⟨rfl, hB1⟩
 exact ⟨rfl, rfl, (HQ.out.drew.call hB1).bel⟩
theorem ask1B_err (Bo Ba : Nat) (s1 : Bool) (p1 : Option Addr) (k1 c1 : Nat) (q1 : Option Addr) (l1 d1 : Nat) (sz1 : Bool) (pz1 : Option Addr) (kz1 cz1 : Nat) (qz1 : Option Addr) (lz1 dz1 : Nat) (x1 : Bool) (y1 : Bool) (g : FuncId) (cap : Array Value) (a b : Bool × Nat × Nat) (r : Int) (w : World)
  (hBo : Box w Bo #[.func (.func g) #[] cap]) (hBa : Box w Ba #[.bool s1, .slice p1 k1 c1, .slice q1 l1 d1, .bool sz1, .slice pz1 kz1 cz1, .slice qz1 lz1 dz1, .bool x1, .bool y1]) (ha : NRep w (.agg #[.bool s1, .slice p1 k1 c1, .slice q1 l1 d1]) a) (hb : NRep w (.agg #[.bool sz1, .slice pz1 kz1 cz1, .slice qz1 lz1 dz1]) b) (h1 : large a.2.1 a.2.2 = false) (h2 : large b.2.1 b.2.2 = false) (ht : TabOk w)
  (hfn : ∀ args W, (callFunc g args).run Tryz.prog W = .ok (.enter g args) W)
  (hop : ∀ W (i3 : Int) (s3 : Bool) (p3 : Option Addr) (k3 c3 : Nat) (q3 : Option Addr) (l3 d3 : Nat) (j3 : Int) (sz3 : Bool) (pz3 : Option Addr) (kz3 cz3 : Nat) (qz3 : Option Addr) (lz3 dz3 : Nat) (e3 : Bool), Below w.heap.size w W → SRep W (.agg #[.int .i64 i3, .bool s3, .slice p3 k3 c3, .slice q3 l3 d3, .int .i64 j3, .bool sz3, .slice pz3 kz3 cz3, .slice qz3 lz3 dz3, .bool e3]) (srd (a, b, x1, y1)) → Calls Tryz.prog g (#[.agg #[.int .i64 i3, .bool s3, .slice p3 k3 c3, .slice q3 l3 d3, .int .i64 j3, .bool sz3, .slice pz3 kz3 cz3, .slice qz3 lz3 dz3, .bool e3]] ++ cap) W fun e w' => e = pan r ∧ Below W.heap.size W w') :
  Calls Tryz.prog 101 #[.pointer (some ⟨Bo, 0, none⟩), .pointer (some ⟨Ba, 0, none⟩)] w fun e w' => e = pan r ∧ Below w.heap.size w w' := by
 have HR := hid (fun (W : World) (hW : Below w.heap.size w W) => readSet_ok s1 p1 k1 c1 q1 l1 d1 sz1 pz1 kz1 cz1 qz1 lz1 dz1 x1 y1 a b W (ha.below hW) (hb.below hW) h1 h2 (ht.below hW))
 have HO := hid hop
 have HQ := hid (QQ.i2 (cs := [.func (.func g) #[] cap]) (cs' := [.bool s1, .slice p1 k1 c1, .slice q1 l1 d1, .bool sz1, .slice pz1 kz1 cz1, .slice qz1 lz1 dz1, .bool x1, .bool y1]) hBo hBa (Below.refl w.heap.size w))
 clear ha hb h1 h2 ht hop
 have hlo := hBo.lt
 have hla := hBa.lt
 clear hBo hBa
 go_enter Tryz.func101, Tryz.ntmps101
 go_upto_region 1 with fail
 have HS := hid (fun (w' : World) (hb : QQ w [(Bo, [.func (.func g) #[] cap]), (Ba, [.bool s1, .slice p1 k1 c1, .slice q1 l1 d1, .bool sz1, .slice pz1 kz1 cz1, .slice qz1 lz1 dz1, .bool x1, .bool y1])] w') => hb.s_1_8)
 refine wp_region_held_drew (S := (fun w' => w'.cell? ⟨Bo, 0, none⟩ = some (.func (.func g) #[] cap) ∧ w'.cell? ⟨Ba, 0, none⟩ = some (.bool s1) ∧ w'.cell? ⟨Ba, 1, none⟩ = some (.slice p1 k1 c1) ∧ w'.cell? ⟨Ba, 2, none⟩ = some (.slice q1 l1 d1) ∧ w'.cell? ⟨Ba, 3, none⟩ = some (.bool sz1) ∧ w'.cell? ⟨Ba, 4, none⟩ = some (.slice pz1 kz1 cz1) ∧ w'.cell? ⟨Ba, 5, none⟩ = some (.slice qz1 lz1 dz1) ∧ w'.cell? ⟨Ba, 6, none⟩ = some (.bool x1) ∧ w'.cell? ⟨Ba, 7, none⟩ = some (.bool y1) ∧ Hid (QQ w [(Bo, [.func (.func g) #[] cap]), (Ba, [.bool s1, .slice p1 k1 c1, .slice q1 l1 d1, .bool sz1, .slice pz1 kz1 cz1, .slice qz1 lz1 dz1, .bool x1, .bool y1])] w'))) (by kernel_rfl) (HS.out _ HQ.out.drew) (fun hHeld => ?_)
 refine wpAnyH_take (i := 0) (v := ?vv0) rfl (by kernel_rfl) (by kernel_rfl) (by kernel_rfl) (fun _ _ _ h => h) (Or.inl ⟨by rfl, ?hy0⟩) (by assumption) ?_
 case hy0 => (intro w' hSw; (try dsimp only at hSw); go_simp; first | done | with_reducible rfl)
 simp only [Act.put]
 refine wpAnyH_take (i := 1) (v := ?vv1) rfl (by kernel_rfl) (by kernel_rfl) (by kernel_rfl) (fun _ _ _ h => h) (Or.inl ⟨by rfl, ?hy1⟩) (by assumption) ?_
 case hy1 => (intro w' hSw; (try dsimp only at hSw); go_simp; first | done | with_reducible rfl)
 simp only [Act.put]
 refine wpAnyH_ready (rs := [2]) (by kernel_rfl) (by simp) ?_
 refine AllReadyH.cons rfl (fun K hK => ?_) AllReadyH.nil
 go_simp
 go_at_call 79
 refine (HR.out _ HQ.out.drew.bel).mono ?_
 rintro e wa ⟨i3, s3, p3, k3, c3, q3, l3, d3, j3, sz3, pz3, kz3, cz3, qz3, lz3, dz3, e3, rfl, hS, hB1⟩
 have hQ1 := HQ.out.drew.call hB1
 go_wp2_with fail
 refine hK.out _ _ ?_ (fun hHeld => ?_)
 ·exact HS.out _ (hQ1)
 clear hK K
 try simp only [Act.put, List.setIfInBounds_toArray, List.set_cons_zero, List.set_cons_succ]
 refine wpAnyH_ready (rs := [3]) (by kernel_rfl) (by simp) ?_
 refine AllReadyH.cons rfl (fun K hK => ?_) AllReadyH.nil
 go_simp
 refine (HO.out _ i3 s3 p3 k3 c3 q3 l3 d3 j3 sz3 pz3 kz3 cz3 qz3 lz3 dz3 e3 hQ1.bel hS.out).mono ?_
 rintro e wb ⟨rfl, hB2⟩
 exact ⟨rfl, rfl, (hQ1.call hB2).bel⟩
theorem enter_ask1B (args : Array Value) (w : World) : (callFunc 101 args).run Tryz.prog w = .ok (.enter 101 args) w := call_enter Tryz.func101 (by kernel_rfl) rfl args w
theorem enter_Has1 (args : Array Value) (w : World) : (callFunc 40 args).run Tryz.prog w = .ok (.enter 40 args) w := call_enter Tryz.func40 (by kernel_rfl) rfl args w
theorem askB_any (s1 : Bool) (p1 : Option Addr) (k1 c1 : Nat) (q1 : Option Addr) (l1 d1 : Nat) (sz1 : Bool) (pz1 : Option Addr) (kz1 cz1 : Nat) (qz1 : Option Addr) (lz1 dz1 : Nat) (x1 : Bool) (y1 : Bool) (g : FuncId) (cap : Array Value) (r : Bool) (c : Int) (w : World)
  (hcl : ∀ W, Below w.heap.size w W → Box W w.heap.size #[.bool s1, .slice p1 k1 c1, .slice q1 l1 d1, .bool sz1, .slice pz1 kz1 cz1, .slice qz1 lz1 dz1, .bool x1, .bool y1] → Box W (w.heap.size + 1) #[.func (.func g) #[] cap] →
   Calls Tryz.prog 100 #[.func (.func 101) #[] #[.pointer (some ⟨w.heap.size + 1, 0, none⟩), .pointer (some ⟨w.heap.size, 0, none⟩)]] W fun e w' => e = .returned (.tuple #[.bool r, .int .i64 c]) ∧ Below W.heap.size W w') :
  Calls Tryz.prog 39 #[.agg #[.bool s1, .slice p1 k1 c1, .slice q1 l1 d1, .bool sz1, .slice pz1 kz1 cz1, .slice qz1 lz1 dz1, .bool x1, .bool y1], .func (.func g) #[] cap] w fun e w' => e = .returned (.tuple #[.bool r, .int .i64 c]) ∧ Below w.heap.size w w' := by
 have hmf := makeFunc_run
 have HC := hid hcl
 clear hcl
 go_enter Tryz.func39, Tryz.ntmps39
 go_wp2_with fail
 have HV := hid (pre2 w [.bool s1, .slice p1 k1 c1, .slice q1 l1 d1, .bool sz1, .slice pz1 kz1 cz1, .slice qz1 lz1 dz1, .bool x1, .bool y1] [.func (.func g) #[] cap] 26 72 nd8 nd1)
 generalize (w.alloc (.cells #[.bool s1, .slice p1 k1 c1, .slice q1 l1 d1, .bool sz1, .slice pz1 kz1 cz1, .slice qz1 lz1 dz1, .bool x1, .bool y1] 26)).alloc (.cells #[.func (.func g) #[] cap] 72) = W0 at *
 refine (HC.out _ HV.out.2.2 HV.out.1 HV.out.2.1).mono ?_
 rintro e w1 ⟨rfl, hB1⟩
 have HE := hid (HV.out.2.2.trans (hB1.mono HV.out.2.2.size))
 clear hB1
 go_wp2_with fail
 go_ret2
 exact ⟨rfl, HE.out⟩
def hcode (a : (Bool × Nat × Nat) × (Bool × Nat × Nat) × Bool × Bool) (t : Bool × Nat × Nat) : Int := if ilarge a || large t.2.1 t.2.2 then 1 else 0
def hval (a : (Bool × Nat × Nat) × (Bool × Nat × Nat) × Bool × Bool) (t : Bool × Nat × Nat) : Bool := if ilarge a || large t.2.1 t.2.2 then false else shas (srd a) (0, fr t)
theorem iHas_any (s1 : Bool) (p1 : Option Addr) (k1 c1 : Nat) (q1 : Option Addr) (l1 d1 : Nat) (sz1 : Bool) (pz1 : Option Addr) (kz1 cz1 : Nat) (qz1 : Option Addr) (lz1 dz1 : Nat) (x1 : Bool) (y1 : Bool) (s2 : Bool) (p2 : Option Addr) (k2 c2 : Nat) (q2 : Option Addr) (l2 d2 : Nat) (a b t : Bool × Nat × Nat) (w : World) (ha : NRep w (.agg #[.bool s1, .slice p1 k1 c1, .slice q1 l1 d1]) a) (hb : NRep w (.agg #[.bool sz1, .slice pz1 kz1 cz1, .slice qz1 lz1 dz1]) b) (hx : NRep w (.agg #[.bool s2, .slice p2 k2 c2, .slice q2 l2 d2]) t) (ht : TabOk w) :
  Calls Tryz.prog 14 #[.agg #[.bool s1, .slice p1 k1 c1, .slice q1 l1 d1, .bool sz1, .slice pz1 kz1 cz1, .slice qz1 lz1 dz1, .bool x1, .bool y1], .agg #[.bool s2, .slice p2 k2 c2, .slice q2 l2 d2]] w fun e w' => e = .returned (.tuple #[.bool (hval (a, b, x1, y1) t), .int .i64 (hcode (a, b, x1, y1) t)]) ∧ Below w.heap.size w w' := by
 have hmf := makeFunc_run
 obtain ⟨r, hr⟩ : ∃ r, r = hval (a, b, x1, y1) t := ⟨_, rfl⟩
 obtain ⟨c, hc⟩ : ∃ r, r = hcode (a, b, x1, y1) t := ⟨_, rfl⟩
 rw [← hr, ← hc]
 have HC : Hid (∀ W, Below w.heap.size w W → Box W (w.heap.size + 1) #[.bool s2, .slice p2 k2 c2, .slice q2 l2 d2] → Calls Tryz.prog 39 #[.agg #[.bool s1, .slice p1 k1 c1, .slice q1 l1 d1, .bool sz1, .slice pz1 kz1 cz1, .slice qz1 lz1 dz1, .bool x1, .bool y1], .func (.func 40) #[] #[.pointer (some ⟨w.heap.size + 1, 0, none⟩)]] W fun e w' => e = .returned (.tuple #[.bool r, .int .i64 c]) ∧ Below W.heap.size W w') := by
  refine hid fun W hW hBx => askB_any s1 p1 k1 c1 q1 l1 d1 sz1 pz1 kz1 cz1 qz1 lz1 dz1 x1 y1 _ _ r c W fun W2 hW2 hBa hBo => ?_
  have hWW := hW.trans (hW2.mono hW.size)
  have hBx2 := hBx.below hW2
  cases hL : (large a.2.1 a.2.2 || large b.2.1 b.2.2)
  ·have hL2 := hL
   rw [Bool.or_eq_false_iff] at hL
   obtain ⟨h1, h2⟩ := hL
   have hla : ilarge (a, b, x1, y1) = false := hL2
   cases h3 : large t.2.1 t.2.2
   ·have er : r = shas (srd (a, b, x1, y1)) (0, fr t) := by rw [hr]; unfold hval; rw [hla, h3]; rfl
    have ec : c = 0 := by rw [hc]; unfold hcode; rw [hla, h3]; rfl
    rw [er, ec]
    exact finB_ok _ _ _ W2 enter_ask1B fun W3 hW3 => ask1B_ok (W.heap.size + 1) W.heap.size s1 p1 k1 c1 q1 l1 d1 sz1 pz1 kz1 cz1 qz1 lz1 dz1 x1 y1 _ _ a b _ W3 (hBo.below hW3) (hBa.below hW3) ((ha.below hWW).below hW3) ((hb.below hWW).below hW3) h1 h2 ((ht.below hWW).below hW3) enter_Has1
     fun W4 i3 s3 p3 k3 c3 q3 l3 d3 j3 sz3 pz3 kz3 cz3 qz3 lz3 dz3 e3 hW4 hS => Has1_ok i3 s3 p3 k3 c3 q3 l3 d3 j3 sz3 pz3 kz3 cz3 qz3 lz3 dz3 e3 s2 p2 k2 c2 q2 l2 d2 (w.heap.size + 1) _ t W4 hS (((hx.below hWW).below hW3).below hW4) ⟨(rdE_ok (.inr rfl) h1).le (by omega), (rdE_ok (.inl rfl) h2).le (by omega)⟩ h3 (((ht.below hWW).below hW3).below hW4) ((hBx2.below hW3).below hW4)
   ·have er : r = false := by rw [hr]; unfold hval; rw [hla, h3]; rfl
    have ec : c = 1 := by rw [hc]; unfold hcode; rw [hla, h3]; rfl
    rw [er, ec]
    exact finB_err _ _ 1 W2 enter_ask1B fun W3 hW3 => ask1B_err (W.heap.size + 1) W.heap.size s1 p1 k1 c1 q1 l1 d1 sz1 pz1 kz1 cz1 qz1 lz1 dz1 x1 y1 _ _ a b 1 W3 (hBo.below hW3) (hBa.below hW3) ((ha.below hWW).below hW3) ((hb.below hWW).below hW3) h1 h2 ((ht.below hWW).below hW3) enter_Has1
     fun W4 i3 s3 p3 k3 c3 q3 l3 d3 j3 sz3 pz3 kz3 cz3 qz3 lz3 dz3 e3 hW4 _ => Has1_large i3 s3 p3 k3 c3 q3 l3 d3 j3 sz3 pz3 kz3 cz3 qz3 lz3 dz3 e3 s2 p2 k2 c2 q2 l2 d2 (w.heap.size + 1) t W4 (((hx.below hWW).below hW3).below hW4) h3 (((ht.below hWW).below hW3).below hW4) ((hBx2.below hW3).below hW4)
  ·have hla : ilarge (a, b, x1, y1) = true := hL
   have er : r = false := by rw [hr]; unfold hval; rw [hla]; rfl
   have ec : c = 1 := by rw [hc]; unfold hcode; rw [hla]; rfl
   rw [er, ec]
   exact finB_err _ _ 1 W2 enter_ask1B fun W3 hW3 => ask1B_large (W.heap.size + 1) W.heap.size s1 p1 k1 c1 q1 l1 d1 sz1 pz1 kz1 cz1 qz1 lz1 dz1 x1 y1 _ _ a b W3 (hBo.below hW3) (hBa.below hW3) ((ha.below hWW).below hW3) ((hb.below hWW).below hW3) hL ((ht.below hWW).below hW3)
 clear ha hb hx ht hr hc
 go_enter Tryz.func14, Tryz.ntmps14
 go_wp2_with fail
 have HV := hid (pre2 w [.bool s1, .slice p1 k1 c1, .slice q1 l1 d1, .bool sz1, .slice pz1 kz1 cz1, .slice qz1 lz1 dz1, .bool x1, .bool y1] [.bool s2, .slice p2 k2 c2, .slice q2 l2 d2] 26 24 nd8 nd3)
 generalize (w.alloc (.cells #[.bool s1, .slice p1 k1 c1, .slice q1 l1 d1, .bool sz1, .slice pz1 kz1 cz1, .slice qz1 lz1 dz1, .bool x1, .bool y1] 26)).alloc (.cells #[.bool s2, .slice p2 k2 c2, .slice q2 l2 d2] 24) = W0 at *
 refine (HC.out _ HV.out.2.2 HV.out.2.1).mono ?_
 rintro e w1 ⟨rfl, hB1⟩
 have HE := hid (HV.out.2.2.trans (hB1.mono HV.out.2.2.size))
 clear hB1
 go_wp2_with fail
 go_ret2
 exact ⟨rfl, HE.out⟩
end Go.Proofs.YtheojajaefjecaaGreatDoor
