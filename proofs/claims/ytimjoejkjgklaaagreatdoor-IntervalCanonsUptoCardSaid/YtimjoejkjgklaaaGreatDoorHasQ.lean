/- Whether a number is in an interval: ask, Has. -/
import Derived.Test.YtimjoejkjgklaaaGreatDoorHasP
import Derived.Test.YtimjoejkjgklaaaGreatDoorFin
set_option maxHeartbeats 2000000
set_option maxRecDepth 100000
namespace Go.Proofs.YtimjoejkjgklaaaGreatDoor
open Go.RowKit Dg
theorem ask1B_ok (Bo Ba : Nat) (s1 : Bool) (p1 : Option Addr) (k1 c1 : Nat) (q1 : Option Addr) (l1 d1 : Nat) (sz1 : Bool) (pz1 : Option Addr) (kz1 cz1 : Nat) (qz1 : Option Addr) (lz1 dz1 : Nat) (x1 : Bool) (y1 : Bool) (g : FuncId) (cap : Array Value) (a b : Bool × Nat × Nat) (r : Bool) (w : World)
    (hBo : Box w Bo #[.func (.func g) #[] cap]) (hBa : Box w Ba #[.bool s1, .slice p1 k1 c1, .slice q1 l1 d1, .bool sz1, .slice pz1 kz1 cz1, .slice qz1 lz1 dz1, .bool x1, .bool y1]) (ha : NRep w (.agg #[.bool s1, .slice p1 k1 c1, .slice q1 l1 d1]) a) (hb : NRep w (.agg #[.bool sz1, .slice pz1 kz1 cz1, .slice qz1 lz1 dz1]) b) (h1 : large a.2.1 a.2.2 = false) (h2 : large b.2.1 b.2.2 = false) (ht : TabOk w)
    (hfn : ∀ args W, (callFunc g args).run Tryz.prog W = .ok (.enter g args) W)
    (hop : ∀ W (i3 : Int) (s3 : Bool) (p3 : Option Addr) (k3 c3 : Nat) (q3 : Option Addr) (l3 d3 : Nat) (j3 : Int) (sz3 : Bool) (pz3 : Option Addr) (kz3 cz3 : Nat) (qz3 : Option Addr) (lz3 dz3 : Nat) (e3 : Bool), Below w.heap.size w W → SRep W (.agg #[.int .i64 i3, .bool s3, .slice p3 k3 c3, .slice q3 l3 d3, .int .i64 j3, .bool sz3, .slice pz3 kz3 cz3, .slice qz3 lz3 dz3, .bool e3]) (srd (a, b, x1, y1)) → Calls Tryz.prog g (#[.agg #[.int .i64 i3, .bool s3, .slice p3 k3 c3, .slice q3 l3 d3, .int .i64 j3, .bool sz3, .slice pz3 kz3 cz3, .slice qz3 lz3 dz3, .bool e3]] ++ cap) W fun e w' => e = .returned (.bool r) ∧ Below W.heap.size W w') :
    Calls Tryz.prog 101 #[.pointer (some ⟨Bo, 0, none⟩), .pointer (some ⟨Ba, 0, none⟩)] w fun e w' => e = .returned (.bool r) ∧ Below w.heap.size w w' := by
  have HR := hid (fun (W : World) (hW : Below w.heap.size w W) => readSet_ok s1 p1 k1 c1 q1 l1 d1 sz1 pz1 kz1 cz1 qz1 lz1 dz1 x1 y1 a b W (ha.below hW) (hb.below hW) h1 h2 (ht.below hW))
  have HO := hid hop
  have HQ := hid (QQ.i2 (cs := [.func (.func g) #[] cap]) (cs' := [.bool s1, .slice p1 k1 c1, .slice q1 l1 d1, .bool sz1, .slice pz1 kz1 cz1, .slice qz1 lz1 dz1, .bool x1, .bool y1]) hBo hBa (Below.refl w.heap.size w))
  clear ha hb h1 h2 ht hop
  have hlo := hBo.lt
  have hla := hBa.lt
  clear hBo hBa
  go_enter Tryz.func101, Tryz.ntmps101
  go_upto_region 1 with fail
  have HS : Hid (∀ w', QQ w [(Bo, [.func (.func g) #[] cap]), (Ba, [.bool s1, .slice p1 k1 c1, .slice q1 l1 d1, .bool sz1, .slice pz1 kz1 cz1, .slice qz1 lz1 dz1, .bool x1, .bool y1])] w' → (w'.cell? ⟨Bo, 0, none⟩ = some (.func (.func g) #[] cap) ∧ w'.cell? ⟨Ba, 0, none⟩ = some (.bool s1) ∧ w'.cell? ⟨Ba, 1, none⟩ = some (.slice p1 k1 c1) ∧ w'.cell? ⟨Ba, 2, none⟩ = some (.slice q1 l1 d1) ∧ w'.cell? ⟨Ba, 3, none⟩ = some (.bool sz1) ∧ w'.cell? ⟨Ba, 4, none⟩ = some (.slice pz1 kz1 cz1) ∧ w'.cell? ⟨Ba, 5, none⟩ = some (.slice qz1 lz1 dz1) ∧ w'.cell? ⟨Ba, 6, none⟩ = some (.bool x1) ∧ w'.cell? ⟨Ba, 7, none⟩ = some (.bool y1) ∧ Hid (QQ w [(Bo, [.func (.func g) #[] cap]), (Ba, [.bool s1, .slice p1 k1 c1, .slice q1 l1 d1, .bool sz1, .slice pz1 kz1 cz1, .slice qz1 lz1 dz1, .bool x1, .bool y1])] w'))) :=
    hid fun w' hb => ⟨hb.b1.cells1.1, (hb.b2.cells8).1, (hb.b2.cells8).2.1, (hb.b2.cells8).2.2.1, (hb.b2.cells8).2.2.2.1, (hb.b2.cells8).2.2.2.2.1, (hb.b2.cells8).2.2.2.2.2.1, (hb.b2.cells8).2.2.2.2.2.2.1, (hb.b2.cells8).2.2.2.2.2.2.2.1, hid hb⟩
  go_region_held3 (fun w' => w'.cell? ⟨Bo, 0, none⟩ = some (.func (.func g) #[] cap) ∧ w'.cell? ⟨Ba, 0, none⟩ = some (.bool s1) ∧ w'.cell? ⟨Ba, 1, none⟩ = some (.slice p1 k1 c1) ∧ w'.cell? ⟨Ba, 2, none⟩ = some (.slice q1 l1 d1) ∧ w'.cell? ⟨Ba, 3, none⟩ = some (.bool sz1) ∧ w'.cell? ⟨Ba, 4, none⟩ = some (.slice pz1 kz1 cz1) ∧ w'.cell? ⟨Ba, 5, none⟩ = some (.slice qz1 lz1 dz1) ∧ w'.cell? ⟨Ba, 6, none⟩ = some (.bool x1) ∧ w'.cell? ⟨Ba, 7, none⟩ = some (.bool y1) ∧ Hid (QQ w [(Bo, [.func (.func g) #[] cap]), (Ba, [.bool s1, .slice p1 k1 c1, .slice q1 l1 d1, .bool sz1, .slice pz1 kz1 cz1, .slice qz1 lz1 dz1, .bool x1, .bool y1])] w'))
    (first | (refine HS.out _ ?_; first | (with_reducible exact HQ.out.drew) | (with_reducible assumption)))
    (first
      | (go_at_call 96; refine (HR.out _ HQ.out.drew.bel).mono ?_; rintro e wa ⟨i3, s3, p3, k3, c3, q3, l3, d3, j3, sz3, pz3, kz3, cz3, qz3, lz3, dz3, e3, rfl, hS, hB1⟩; have hQ1 := HQ.out.drew.call hB1)
      | (refine (HO.out _ i3 s3 p3 k3 c3 q3 l3 d3 j3 sz3 pz3 kz3 cz3 qz3 lz3 dz3 e3 hQ1.bel hS.out).mono ?_; rintro e wb ⟨rfl, hB2⟩; have hQ2 := hQ1.call hB2))
  rename_i hHeld
  clear hHeld
  have HE := hid hQ2.bel
  clear hQ1 hQ2 hB1 hB2 hS
  go_wp2_with fail
  go_ret
  exact ⟨rfl, HE.out⟩
theorem ask1B_large (Bo Ba : Nat) (s1 : Bool) (p1 : Option Addr) (k1 c1 : Nat) (q1 : Option Addr) (l1 d1 : Nat) (sz1 : Bool) (pz1 : Option Addr) (kz1 cz1 : Nat) (qz1 : Option Addr) (lz1 dz1 : Nat) (x1 : Bool) (y1 : Bool) (g : FuncId) (cap : Array Value) (a b : Bool × Nat × Nat) (w : World)
    (hBo : Box w Bo #[.func (.func g) #[] cap]) (hBa : Box w Ba #[.bool s1, .slice p1 k1 c1, .slice q1 l1 d1, .bool sz1, .slice pz1 kz1 cz1, .slice qz1 lz1 dz1, .bool x1, .bool y1]) (ha : NRep w (.agg #[.bool s1, .slice p1 k1 c1, .slice q1 l1 d1]) a) (hb : NRep w (.agg #[.bool sz1, .slice pz1 kz1 cz1, .slice qz1 lz1 dz1]) b) (h1 : (large a.2.1 a.2.2 || large b.2.1 b.2.2) = true) (ht : TabOk w) :
    Calls Tryz.prog 101 #[.pointer (some ⟨Bo, 0, none⟩), .pointer (some ⟨Ba, 0, none⟩)] w fun e w' => e = pan 1 ∧ Below w.heap.size w w' := by
  have HR := hid (fun (W : World) (hW : Below w.heap.size w W) => readSet_pan s1 p1 k1 c1 q1 l1 d1 sz1 pz1 kz1 cz1 qz1 lz1 dz1 x1 y1 a b W (ha.below hW) (hb.below hW) h1 (ht.below hW))
  have HQ := hid (QQ.i2 (cs := [.func (.func g) #[] cap]) (cs' := [.bool s1, .slice p1 k1 c1, .slice q1 l1 d1, .bool sz1, .slice pz1 kz1 cz1, .slice qz1 lz1 dz1, .bool x1, .bool y1]) hBo hBa (Below.refl w.heap.size w))
  clear ha hb h1 ht
  have hlo := hBo.lt
  have hla := hBa.lt
  clear hBo hBa
  go_enter Tryz.func101, Tryz.ntmps101
  go_upto_region 1 with fail
  have HS : Hid (∀ w', QQ w [(Bo, [.func (.func g) #[] cap]), (Ba, [.bool s1, .slice p1 k1 c1, .slice q1 l1 d1, .bool sz1, .slice pz1 kz1 cz1, .slice qz1 lz1 dz1, .bool x1, .bool y1])] w' → (w'.cell? ⟨Bo, 0, none⟩ = some (.func (.func g) #[] cap) ∧ w'.cell? ⟨Ba, 0, none⟩ = some (.bool s1) ∧ w'.cell? ⟨Ba, 1, none⟩ = some (.slice p1 k1 c1) ∧ w'.cell? ⟨Ba, 2, none⟩ = some (.slice q1 l1 d1) ∧ w'.cell? ⟨Ba, 3, none⟩ = some (.bool sz1) ∧ w'.cell? ⟨Ba, 4, none⟩ = some (.slice pz1 kz1 cz1) ∧ w'.cell? ⟨Ba, 5, none⟩ = some (.slice qz1 lz1 dz1) ∧ w'.cell? ⟨Ba, 6, none⟩ = some (.bool x1) ∧ w'.cell? ⟨Ba, 7, none⟩ = some (.bool y1) ∧ Hid (QQ w [(Bo, [.func (.func g) #[] cap]), (Ba, [.bool s1, .slice p1 k1 c1, .slice q1 l1 d1, .bool sz1, .slice pz1 kz1 cz1, .slice qz1 lz1 dz1, .bool x1, .bool y1])] w'))) :=
    hid fun w' hb => ⟨hb.b1.cells1.1, (hb.b2.cells8).1, (hb.b2.cells8).2.1, (hb.b2.cells8).2.2.1, (hb.b2.cells8).2.2.2.1, (hb.b2.cells8).2.2.2.2.1, (hb.b2.cells8).2.2.2.2.2.1, (hb.b2.cells8).2.2.2.2.2.2.1, (hb.b2.cells8).2.2.2.2.2.2.2.1, hid hb⟩
  refine wp_region_held_drew (S := (fun w' => w'.cell? ⟨Bo, 0, none⟩ = some (.func (.func g) #[] cap) ∧ w'.cell? ⟨Ba, 0, none⟩ = some (.bool s1) ∧ w'.cell? ⟨Ba, 1, none⟩ = some (.slice p1 k1 c1) ∧ w'.cell? ⟨Ba, 2, none⟩ = some (.slice q1 l1 d1) ∧ w'.cell? ⟨Ba, 3, none⟩ = some (.bool sz1) ∧ w'.cell? ⟨Ba, 4, none⟩ = some (.slice pz1 kz1 cz1) ∧ w'.cell? ⟨Ba, 5, none⟩ = some (.slice qz1 lz1 dz1) ∧ w'.cell? ⟨Ba, 6, none⟩ = some (.bool x1) ∧ w'.cell? ⟨Ba, 7, none⟩ = some (.bool y1) ∧ Hid (QQ w [(Bo, [.func (.func g) #[] cap]), (Ba, [.bool s1, .slice p1 k1 c1, .slice q1 l1 d1, .bool sz1, .slice pz1 kz1 cz1, .slice qz1 lz1 dz1, .bool x1, .bool y1])] w'))) (by kernel_rfl) (HS.out _ HQ.out.drew) (fun hHeld => ?_)
  refine wpAnyH_take (i := 0) (v := ?vv0) rfl (by kernel_rfl) (by kernel_rfl) (by kernel_rfl) (fun _ _ _ h => h) (Or.inl ⟨by rfl, ?hy0⟩) (by assumption) ?_
  case hy0 => (intro w' hSw; (try dsimp only at hSw); go_simp; first | done | with_reducible rfl)
  simp only [Act.put]
  refine wpAnyH_take (i := 1) (v := ?vv1) rfl (by kernel_rfl) (by kernel_rfl) (by kernel_rfl) (fun _ _ _ h => h) (Or.inl ⟨by rfl, ?hy1⟩) (by assumption) ?_
  case hy1 => (intro w' hSw; (try dsimp only at hSw); go_simp; first | done | with_reducible rfl)
  simp only [Act.put]
  refine wpAnyH_ready (rs := [2]) (by kernel_rfl) (by simp) ?_
  refine AllReadyH.cons rfl (fun K hK => ?_) AllReadyH.nil
  go_simp
  go_at_call 96
  refine (HR.out _ HQ.out.drew.bel).mono ?_
  rintro e wa ⟨rfl, hB1⟩
  exact ⟨rfl, rfl, (HQ.out.drew.call hB1).bel⟩
theorem enter_ask1B (args : Array Value) (w : World) : (callFunc 101 args).run Tryz.prog w = .ok (.enter 101 args) w := call_enter Tryz.func101 (by kernel_rfl) rfl args w
theorem askB_any (s1 : Bool) (p1 : Option Addr) (k1 c1 : Nat) (q1 : Option Addr) (l1 d1 : Nat) (sz1 : Bool) (pz1 : Option Addr) (kz1 cz1 : Nat) (qz1 : Option Addr) (lz1 dz1 : Nat) (x1 : Bool) (y1 : Bool) (g : FuncId) (cap : Array Value) (r : Bool) (c : Int) (w : World)
    (hcl : ∀ W, Below w.heap.size w W → Box W w.heap.size #[.bool s1, .slice p1 k1 c1, .slice q1 l1 d1, .bool sz1, .slice pz1 kz1 cz1, .slice qz1 lz1 dz1, .bool x1, .bool y1] → Box W (w.heap.size + 1) #[.func (.func g) #[] cap] →
      Calls Tryz.prog 100 #[.func (.func 101) #[] #[.pointer (some ⟨w.heap.size + 1, 0, none⟩), .pointer (some ⟨w.heap.size, 0, none⟩)]] W fun e w' => e = .returned (.tuple #[.bool r, .int .i64 c]) ∧ Below W.heap.size W w') :
    Calls Tryz.prog 47 #[.agg #[.bool s1, .slice p1 k1 c1, .slice q1 l1 d1, .bool sz1, .slice pz1 kz1 cz1, .slice qz1 lz1 dz1, .bool x1, .bool y1], .func (.func g) #[] cap] w fun e w' => e = .returned (.tuple #[.bool r, .int .i64 c]) ∧ Below w.heap.size w w' := by
  have hmf := makeFunc_run
  have HC := hid hcl
  clear hcl
  go_enter Tryz.func47, Tryz.ntmps47
  go_wp2_with fail
  have HV := hid (pre2 w [.bool s1, .slice p1 k1 c1, .slice q1 l1 d1, .bool sz1, .slice pz1 kz1 cz1, .slice qz1 lz1 dz1, .bool x1, .bool y1] [.func (.func g) #[] cap] 26 71 nd8 nd1)
  generalize (w.alloc (.cells #[.bool s1, .slice p1 k1 c1, .slice q1 l1 d1, .bool sz1, .slice pz1 kz1 cz1, .slice qz1 lz1 dz1, .bool x1, .bool y1] 26)).alloc (.cells #[.func (.func g) #[] cap] 71) = W0 at *
  refine (HC.out _ HV.out.2.2 HV.out.1 HV.out.2.1).mono ?_
  rintro e w1 ⟨rfl, hB1⟩
  have HE := hid (HV.out.2.2.trans (hB1.mono HV.out.2.2.size))
  clear hB1
  go_wp2_with fail
  go_ret2
  exact ⟨rfl, HE.out⟩
/-- The answer of Has. -/
def hval (a : (Bool × Nat × Nat) × (Bool × Nat × Nat) × Bool × Bool) (t : Bool × Nat × Nat) : Bool := if ilarge a || large t.2.1 t.2.2 then false else shas (srd a) (0, fr t)
end Go.Proofs.YtimjoejkjgklaaaGreatDoor
