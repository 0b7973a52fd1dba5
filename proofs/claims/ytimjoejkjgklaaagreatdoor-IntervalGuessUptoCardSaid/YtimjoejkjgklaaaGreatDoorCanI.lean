/- Operations that end by a panic, with an int as result: Run, ask. IsEmpty, Bounded, Sign of the program. -/
import Derived.Test.YtimjoejkjgklaaaGreatDoorHasU
import Derived.Test.YtimjoejkjgklaaaGreatDoorAbsI
import Derived.Test.YtimjoejkjgklaaaGreatDoorMkI
set_option maxHeartbeats 2000000
set_option maxRecDepth 100000
namespace Go.Proofs.YtimjoejkjgklaaaGreatDoor
open Go.RowKit Dg
theorem catchN_panicking (p : Addr) (x c : Int) (older : List PanicEntry) (w : World) (hc : w.cell? p = some (.int .i64 x)) (hz : w.frozen? p = false) :
    CallsD Tryz.prog 154 #[.pointer (some p)] (.panicking ({ v := .iface 27 (.int .i64 c), recovered := false } :: older)) w fun e u' w' =>
      e = .returned (.tuple #[]) ∧ u' = .panicking ({ v := .iface 27 (.int .i64 c), recovered := true } :: older) ∧ w' = w.setCell p (.int .i64 c) := by
  refine callsD_of_wpS Tryz.func154 rfl fun c₀ cs hu => ?_
  apply wpS_seq
  apply wpS_region
  simp [wpOpsS, go_sem, recoverD, hu, Tryz.ntmps154, Exit.thenS]
  refine wpS_of_wp ?_
  have hta := assert_errno c
  go_wp2_with fail
  simp [bodyPostS, results, Tryz.results154]
theorem catchN_idle (p : Addr) (w : World) :
    CallsD Tryz.prog 154 #[.pointer (some p)] .returning w fun e u' w' => e = .returned (.tuple #[]) ∧ u' = .returning ∧ w' = w := by
  refine callsD_of_wpS Tryz.func154 rfl fun c₀ cs hu => ?_
  apply wpS_seq
  apply wpS_region
  simp [wpOpsS, go_sem, recoverD, hu, Tryz.ntmps154, Exit.thenS]
  refine wpS_of_wp ?_
  go_wp2_with fail
  cases c₀
  simp_all [bodyPostS, results, Tryz.results154]
theorem finN_ok (g : FuncId) (cap : Array Value) (b : Int) (w : World) (hfn : ∀ args W, (callFunc g args).run Tryz.prog W = .ok (.enter g args) W)
    (hop : ∀ W, Below w.heap.size w W → Calls Tryz.prog g cap W fun e w' => e = .returned (.int .i64 b) ∧ Below W.heap.size W w') :
    Calls Tryz.prog 102 #[.func (.func g) #[] cap] w fun e w' => e = .returned (.tuple #[.int .i64 b, .int .i64 0]) ∧ Below w.heap.size w w' := by
  have hmf := makeFunc_run
  have HO := hid hop
  clear hop
  go_enter_defers Tryz.func102, Tryz.ntmps102
  go_wp2_with fail
  have HV := hid (pre1 w [.int .i64 0] 27 nd1)
  generalize w.alloc (.cells #[.int .i64 0] 27) = W0 at *
  refine (HO.out _ HV.out.2).mono ?_
  rintro e w1 ⟨rfl, hB⟩
  have HV1 := hid (HV.out.1.below hB)
  have HB := hid (HV.out.2.trans (hB.mono HV.out.2.size))
  clear hB
  obtain ⟨g0, f0⟩ := HV1.out.cells1
  go_wp2_with fail
  refine leaves_cons (f := 154) (args := #[.pointer (some ⟨w.heap.size, 0, none⟩)]) (by simp) (by simp [go_sem]) ?_
  refine (catchN_idle ⟨w.heap.size, 0, none⟩ _).mono ?_
  rintro e u' w'' ⟨rfl, rfl, rfl⟩
  have hVx : Box (w1.setCell ⟨w.heap.size, 0, none⟩ (.int .i64 0)) w.heap.size #[.int .i64 0] := HV1.out.stores [.int .i64 0] rfl nd1
  obtain ⟨c0, _⟩ := hVx.cells1
  have HL : Hid (Below w.heap.size w (w1.setCell ⟨w.heap.size, 0, none⟩ (.int .i64 0))) := hid (HB.out.setCell (Nat.le_refl _) _)
  simp [Leaves, settle, results, Tryz.results102, go_sem, c0]
  exact HL.out
theorem finN_err (g : FuncId) (cap : Array Value) (c : Int) (w : World) (hfn : ∀ args W, (callFunc g args).run Tryz.prog W = .ok (.enter g args) W)
    (hop : ∀ W, Below w.heap.size w W → Calls Tryz.prog g cap W fun e w' => e = pan c ∧ Below W.heap.size W w') :
    Calls Tryz.prog 102 #[.func (.func g) #[] cap] w fun e w' => e = .returned (.tuple #[.int .i64 0, .int .i64 c]) ∧ Below w.heap.size w w' := by
  have hmf := makeFunc_run
  have HO := hid hop
  clear hop
  go_enter_defers Tryz.func102, Tryz.ntmps102
  go_wp2_with fail
  have HV := hid (pre1 w [.int .i64 0] 27 nd1)
  generalize w.alloc (.cells #[.int .i64 0] 27) = W0 at *
  refine (HO.out _ HV.out.2).mono ?_
  rintro e w1 ⟨rfl, hB⟩
  have HV1 := hid (HV.out.1.below hB)
  have HB := hid (HV.out.2.trans (hB.mono HV.out.2.size))
  clear hB
  obtain ⟨g0, f0⟩ := HV1.out.cells1
  unfold pan
  refine leaves_cons (f := 154) (args := #[.pointer (some ⟨w.heap.size, 0, none⟩)]) (by simp) (by simp [go_sem]) ?_
  refine (catchN_panicking ⟨w.heap.size, 0, none⟩ 0 c [] _ g0 f0).mono ?_
  rintro e u' w'' ⟨rfl, rfl, rfl⟩
  have hVx : Box (w1.setCell ⟨w.heap.size, 0, none⟩ (.int .i64 c)) w.heap.size #[.int .i64 c] := HV1.out.stores [.int .i64 c] rfl nd1
  obtain ⟨c0, _⟩ := hVx.cells1
  have HL : Hid (Below w.heap.size w (w1.setCell ⟨w.heap.size, 0, none⟩ (.int .i64 c))) := hid (HB.out.setCell (Nat.le_refl _) _)
  simp [Leaves, settle, results, Tryz.results102, go_sem, c0]
  exact HL.out
theorem ask1N_ok (Bo Ba : Nat) (s1 : Bool) (p1 : Option Addr) (k1 c1 : Nat) (q1 : Option Addr) (l1 d1 : Nat) (sz1 : Bool) (pz1 : Option Addr) (kz1 cz1 : Nat) (qz1 : Option Addr) (lz1 dz1 : Nat) (x1 : Bool) (y1 : Bool) (g : FuncId) (cap : Array Value) (a b : Bool × Nat × Nat) (r : Int) (w : World)
    (hBo : Box w Bo #[.func (.func g) #[] cap]) (hBa : Box w Ba #[.bool s1, .slice p1 k1 c1, .slice q1 l1 d1, .bool sz1, .slice pz1 kz1 cz1, .slice qz1 lz1 dz1, .bool x1, .bool y1]) (ha : NRep w (.agg #[.bool s1, .slice p1 k1 c1, .slice q1 l1 d1]) a) (hb : NRep w (.agg #[.bool sz1, .slice pz1 kz1 cz1, .slice qz1 lz1 dz1]) b) (h1 : large a.2.1 a.2.2 = false) (h2 : large b.2.1 b.2.2 = false) (ht : TabOk w)
    (hfn : ∀ args W, (callFunc g args).run Tryz.prog W = .ok (.enter g args) W)
    (hop : ∀ W (i3 : Int) (s3 : Bool) (p3 : Option Addr) (k3 c3 : Nat) (q3 : Option Addr) (l3 d3 : Nat) (j3 : Int) (sz3 : Bool) (pz3 : Option Addr) (kz3 cz3 : Nat) (qz3 : Option Addr) (lz3 dz3 : Nat) (e3 : Bool), Below w.heap.size w W → SRep W (.agg #[.int .i64 i3, .bool s3, .slice p3 k3 c3, .slice q3 l3 d3, .int .i64 j3, .bool sz3, .slice pz3 kz3 cz3, .slice qz3 lz3 dz3, .bool e3]) (srd (a, b, x1, y1)) → Calls Tryz.prog g (#[.agg #[.int .i64 i3, .bool s3, .slice p3 k3 c3, .slice q3 l3 d3, .int .i64 j3, .bool sz3, .slice pz3 kz3 cz3, .slice qz3 lz3 dz3, .bool e3]] ++ cap) W fun e w' => e = .returned (.int .i64 r) ∧ Below W.heap.size W w') :
    Calls Tryz.prog 103 #[.pointer (some ⟨Bo, 0, none⟩), .pointer (some ⟨Ba, 0, none⟩)] w fun e w' => e = .returned (.int .i64 r) ∧ Below w.heap.size w w' := by
  have HR := hid (fun (W : World) (hW : Below w.heap.size w W) => readSet_ok s1 p1 k1 c1 q1 l1 d1 sz1 pz1 kz1 cz1 qz1 lz1 dz1 x1 y1 a b W (ha.below hW) (hb.below hW) h1 h2 (ht.below hW))
  have HO := hid hop
  have HQ := hid (QQ.i2 (cs := [.func (.func g) #[] cap]) (cs' := [.bool s1, .slice p1 k1 c1, .slice q1 l1 d1, .bool sz1, .slice pz1 kz1 cz1, .slice qz1 lz1 dz1, .bool x1, .bool y1]) hBo hBa (Below.refl w.heap.size w))
  clear ha hb h1 h2 ht hop
  have hlo := hBo.lt
  have hla := hBa.lt
  clear hBo hBa
  go_enter Tryz.func103, Tryz.ntmps103
  go_upto_region 1 with fail
  have HS : Hid (∀ w', QQ w [(Bo, [.func (.func g) #[] cap]), (Ba, [.bool s1, .slice p1 k1 c1, .slice q1 l1 d1, .bool sz1, .slice pz1 kz1 cz1, .slice qz1 lz1 dz1, .bool x1, .bool y1])] w' → (w'.cell? ⟨Bo, 0, none⟩ = some (.func (.func g) #[] cap) ∧ w'.cell? ⟨Ba, 0, none⟩ = some (.bool s1) ∧ w'.cell? ⟨Ba, 1, none⟩ = some (.slice p1 k1 c1) ∧ w'.cell? ⟨Ba, 2, none⟩ = some (.slice q1 l1 d1) ∧ w'.cell? ⟨Ba, 3, none⟩ = some (.bool sz1) ∧ w'.cell? ⟨Ba, 4, none⟩ = some (.slice pz1 kz1 cz1) ∧ w'.cell? ⟨Ba, 5, none⟩ = some (.slice qz1 lz1 dz1) ∧ w'.cell? ⟨Ba, 6, none⟩ = some (.bool x1) ∧ w'.cell? ⟨Ba, 7, none⟩ = some (.bool y1) ∧ Hid (QQ w [(Bo, [.func (.func g) #[] cap]), (Ba, [.bool s1, .slice p1 k1 c1, .slice q1 l1 d1, .bool sz1, .slice pz1 kz1 cz1, .slice qz1 lz1 dz1, .bool x1, .bool y1])] w'))) :=
    hid fun w' hb => ⟨hb.b1.cells1.1, (hb.b2.cells8).1, (hb.b2.cells8).2.1, (hb.b2.cells8).2.2.1, (hb.b2.cells8).2.2.2.1, (hb.b2.cells8).2.2.2.2.1, (hb.b2.cells8).2.2.2.2.2.1, (hb.b2.cells8).2.2.2.2.2.2.1, (hb.b2.cells8).2.2.2.2.2.2.2.1, hid hb⟩
  go_region_held3 (fun w' => w'.cell? ⟨Bo, 0, none⟩ = some (.func (.func g) #[] cap) ∧ w'.cell? ⟨Ba, 0, none⟩ = some (.bool s1) ∧ w'.cell? ⟨Ba, 1, none⟩ = some (.slice p1 k1 c1) ∧ w'.cell? ⟨Ba, 2, none⟩ = some (.slice q1 l1 d1) ∧ w'.cell? ⟨Ba, 3, none⟩ = some (.bool sz1) ∧ w'.cell? ⟨Ba, 4, none⟩ = some (.slice pz1 kz1 cz1) ∧ w'.cell? ⟨Ba, 5, none⟩ = some (.slice qz1 lz1 dz1) ∧ w'.cell? ⟨Ba, 6, none⟩ = some (.bool x1) ∧ w'.cell? ⟨Ba, 7, none⟩ = some (.bool y1) ∧ Hid (QQ w [(Bo, [.func (.func g) #[] cap]), (Ba, [.bool s1, .slice p1 k1 c1, .slice q1 l1 d1, .bool sz1, .slice pz1 kz1 cz1, .slice qz1 lz1 dz1, .bool x1, .bool y1])] w'))
    (first | (refine HS.out _ ?_; first | (with_reducible exact HQ.out.drew) | (with_reducible assumption)))
    (first
      | (go_at_call 96; refine (HR.out _ HQ.out.drew.bel).mono ?_; rintro e wa ⟨i3, s3, p3, k3, c3, q3, l3, d3, j3, sz3, pz3, kz3, cz3, qz3, lz3, dz3, e3, rfl, hS, hB1⟩; have hQ1 := HQ.out.drew.call hB1)
      | (refine (HO.out _ i3 s3 p3 k3 c3 q3 l3 d3 j3 sz3 pz3 kz3 cz3 qz3 lz3 dz3 e3 hQ1.bel hS.out).mono ?_; rintro e wb ⟨rfl, hB2⟩; have hQ2 := hQ1.call hB2))
  rename_i hHeld
  clear hHeld
  have HE := hid hQ2.bel
  clear hQ1 hQ2 hB1 hB2 hS
  go_wp2_with fail
  go_ret
  exact ⟨rfl, HE.out⟩
theorem ask1N_large (Bo Ba : Nat) (s1 : Bool) (p1 : Option Addr) (k1 c1 : Nat) (q1 : Option Addr) (l1 d1 : Nat) (sz1 : Bool) (pz1 : Option Addr) (kz1 cz1 : Nat) (qz1 : Option Addr) (lz1 dz1 : Nat) (x1 : Bool) (y1 : Bool) (g : FuncId) (cap : Array Value) (a b : Bool × Nat × Nat) (w : World)
    (hBo : Box w Bo #[.func (.func g) #[] cap]) (hBa : Box w Ba #[.bool s1, .slice p1 k1 c1, .slice q1 l1 d1, .bool sz1, .slice pz1 kz1 cz1, .slice qz1 lz1 dz1, .bool x1, .bool y1]) (ha : NRep w (.agg #[.bool s1, .slice p1 k1 c1, .slice q1 l1 d1]) a) (hb : NRep w (.agg #[.bool sz1, .slice pz1 kz1 cz1, .slice qz1 lz1 dz1]) b) (h1 : (large a.2.1 a.2.2 || large b.2.1 b.2.2) = true) (ht : TabOk w) :
    Calls Tryz.prog 103 #[.pointer (some ⟨Bo, 0, none⟩), .pointer (some ⟨Ba, 0, none⟩)] w fun e w' => e = pan 1 ∧ Below w.heap.size w w' := by
  have HR := hid (fun (W : World) (hW : Below w.heap.size w W) => readSet_pan s1 p1 k1 c1 q1 l1 d1 sz1 pz1 kz1 cz1 qz1 lz1 dz1 x1 y1 a b W (ha.below hW) (hb.below hW) h1 (ht.below hW))
  have HQ := hid (QQ.i2 (cs := [.func (.func g) #[] cap]) (cs' := [.bool s1, .slice p1 k1 c1, .slice q1 l1 d1, .bool sz1, .slice pz1 kz1 cz1, .slice qz1 lz1 dz1, .bool x1, .bool y1]) hBo hBa (Below.refl w.heap.size w))
  clear ha hb h1 ht
  have hlo := hBo.lt
  have hla := hBa.lt
  clear hBo hBa
  go_enter Tryz.func103, Tryz.ntmps103
  go_upto_region 1 with fail
  have HS : Hid (∀ w', QQ w [(Bo, [.func (.func g) #[] cap]), (Ba, [.bool s1, .slice p1 k1 c1, .slice q1 l1 d1, .bool sz1, .slice pz1 kz1 cz1, .slice qz1 lz1 dz1, .bool x1, .bool y1])] w' → (w'.cell? ⟨Bo, 0, none⟩ = some (.func (.func g) #[] cap) ∧ w'.cell? ⟨Ba, 0, none⟩ = some (.bool s1) ∧ w'.cell? ⟨Ba, 1, none⟩ = some (.slice p1 k1 c1) ∧ w'.cell? ⟨Ba, 2, none⟩ = some (.slice q1 l1 d1) ∧ w'.cell? ⟨Ba, 3, none⟩ = some (.bool sz1) ∧ w'.cell? ⟨Ba, 4, none⟩ = some (.slice pz1 kz1 cz1) ∧ w'.cell? ⟨Ba, 5, none⟩ = some (.slice qz1 lz1 dz1) ∧ w'.cell? ⟨Ba, 6, none⟩ = some (.bool x1) ∧ w'.cell? ⟨Ba, 7, none⟩ = some (.bool y1) ∧ Hid (QQ w [(Bo, [.func (.func g) #[] cap]), (Ba, [.bool s1, .slice p1 k1 c1, .slice q1 l1 d1, .bool sz1, .slice pz1 kz1 cz1, .slice qz1 lz1 dz1, .bool x1, .bool y1])] w'))) :=
    hid fun w' hb => ⟨hb.b1.cells1.1, (hb.b2.cells8).1, (hb.b2.cells8).2.1, (hb.b2.cells8).2.2.1, (hb.b2.cells8).2.2.2.1, (hb.b2.cells8).2.2.2.2.1, (hb.b2.cells8).2.2.2.2.2.1, (hb.b2.cells8).2.2.2.2.2.2.1, (hb.b2.cells8).2.2.2.2.2.2.2.1, hid hb⟩
  refine wp_region_held_drew (S := (fun w' => w'.cell? ⟨Bo, 0, none⟩ = some (.func (.func g) #[] cap) ∧ w'.cell? ⟨Ba, 0, none⟩ = some (.bool s1) ∧ w'.cell? ⟨Ba, 1, none⟩ = some (.slice p1 k1 c1) ∧ w'.cell? ⟨Ba, 2, none⟩ = some (.slice q1 l1 d1) ∧ w'.cell? ⟨Ba, 3, none⟩ = some (.bool sz1) ∧ w'.cell? ⟨Ba, 4, none⟩ = some (.slice pz1 kz1 cz1) ∧ w'.cell? ⟨Ba, 5, none⟩ = some (.slice qz1 lz1 dz1) ∧ w'.cell? ⟨Ba, 6, none⟩ = some (.bool x1) ∧ w'.cell? ⟨Ba, 7, none⟩ = some (.bool y1) ∧ Hid (QQ w [(Bo, [.func (.func g) #[] cap]), (Ba, [.bool s1, .slice p1 k1 c1, .slice q1 l1 d1, .bool sz1, .slice pz1 kz1 cz1, .slice qz1 lz1 dz1, .bool x1, .bool y1])] w'))) (by kernel_rfl) (HS.out _ HQ.out.drew) (fun hHeld => ?_)
  refine wpAnyH_take (i := 0) (v := ?vv0) rfl (by kernel_rfl) (by kernel_rfl) (by kernel_rfl) (fun _ _ _ h => h) (Or.inl ⟨by rfl, ?hy0⟩) (by assumption) ?_
  case hy0 => (intro w' hSw; (try dsimp only at hSw); go_simp; first | done | with_reducible rfl)
  simp only [Act.put]
  refine wpAnyH_take (i := 1) (v := ?vv1) rfl (by kernel_rfl) (by kernel_rfl) (by kernel_rfl) (fun _ _ _ h => h) (Or.inl ⟨by rfl, ?hy1⟩) (by assumption) ?_
  case hy1 => (intro w' hSw; (try dsimp only at hSw); go_simp; first | done | with_reducible rfl)
  simp only [Act.put]
  refine wpAnyH_ready (rs := [2]) (by kernel_rfl) (by simp) ?_
  refine AllReadyH.cons rfl (fun K hK => ?_) AllReadyH.nil
  go_simp
  go_at_call 96
  refine (HR.out _ HQ.out.drew.bel).mono ?_
  rintro e wa ⟨rfl, hB1⟩
  exact ⟨rfl, rfl, (HQ.out.drew.call hB1).bel⟩
theorem enter_ask1N (args : Array Value) (w : World) : (callFunc 103 args).run Tryz.prog w = .ok (.enter 103 args) w := call_enter Tryz.func103 (by kernel_rfl) rfl args w
theorem askN_any (s1 : Bool) (p1 : Option Addr) (k1 c1 : Nat) (q1 : Option Addr) (l1 d1 : Nat) (sz1 : Bool) (pz1 : Option Addr) (kz1 cz1 : Nat) (qz1 : Option Addr) (lz1 dz1 : Nat) (x1 : Bool) (y1 : Bool) (g : FuncId) (cap : Array Value) (r : Int) (c : Int) (w : World)
    (hcl : ∀ W, Below w.heap.size w W → Box W w.heap.size #[.bool s1, .slice p1 k1 c1, .slice q1 l1 d1, .bool sz1, .slice pz1 kz1 cz1, .slice qz1 lz1 dz1, .bool x1, .bool y1] → Box W (w.heap.size + 1) #[.func (.func g) #[] cap] →
      Calls Tryz.prog 102 #[.func (.func 103) #[] #[.pointer (some ⟨w.heap.size + 1, 0, none⟩), .pointer (some ⟨w.heap.size, 0, none⟩)]] W fun e w' => e = .returned (.tuple #[.int .i64 r, .int .i64 c]) ∧ Below W.heap.size W w') :
    Calls Tryz.prog 51 #[.agg #[.bool s1, .slice p1 k1 c1, .slice q1 l1 d1, .bool sz1, .slice pz1 kz1 cz1, .slice qz1 lz1 dz1, .bool x1, .bool y1], .func (.func g) #[] cap] w fun e w' => e = .returned (.tuple #[.int .i64 r, .int .i64 c]) ∧ Below w.heap.size w w' := by
  have hmf := makeFunc_run
  have HC := hid hcl
  clear hcl
  go_enter Tryz.func51, Tryz.ntmps51
  go_wp2_with fail
  have HV := hid (pre2 w [.bool s1, .slice p1 k1 c1, .slice q1 l1 d1, .bool sz1, .slice pz1 kz1 cz1, .slice qz1 lz1 dz1, .bool x1, .bool y1] [.func (.func g) #[] cap] 26 74 nd8 nd1)
  generalize (w.alloc (.cells #[.bool s1, .slice p1 k1 c1, .slice q1 l1 d1, .bool sz1, .slice pz1 kz1 cz1, .slice qz1 lz1 dz1, .bool x1, .bool y1] 26)).alloc (.cells #[.func (.func g) #[] cap] 74) = W0 at *
  refine (HC.out _ HV.out.2.2 HV.out.1 HV.out.2.1).mono ?_
  rintro e w1 ⟨rfl, hB1⟩
  have HE := hid (HV.out.2.2.trans (hB1.mono HV.out.2.2.size))
  clear hB1
  go_wp2_with fail
  go_ret2
  exact ⟨rfl, HE.out⟩
end Go.Proofs.YtimjoejkjgklaaaGreatDoor
namespace Go.Proofs.YtimjoejkjgklaaaGreatDoor
open Go.RowKit Dg
theorem askN_val (s1 : Bool) (p1 : Option Addr) (k1 c1 : Nat) (q1 : Option Addr) (l1 d1 : Nat) (sz1 : Bool) (pz1 : Option Addr) (kz1 cz1 : Nat) (qz1 : Option Addr) (lz1 dz1 : Nat) (x1 : Bool) (y1 : Bool) (g : FuncId) (cap : Array Value) (f : (Int × Bool × Nat × Nat) × (Int × Bool × Nat × Nat) × Bool → Int) (a b : Bool × Nat × Nat) (w : World) (ha : NRep w (.agg #[.bool s1, .slice p1 k1 c1, .slice q1 l1 d1]) a) (hb : NRep w (.agg #[.bool sz1, .slice pz1 kz1 cz1, .slice qz1 lz1 dz1]) b) (ht : TabOk w)
    (hfn : ∀ args W, (callFunc g args).run Tryz.prog W = .ok (.enter g args) W)
    (hop : large a.2.1 a.2.2 = false → large b.2.1 b.2.2 = false → ∀ W (i3 : Int) (s3 : Bool) (p3 : Option Addr) (k3 c3 : Nat) (q3 : Option Addr) (l3 d3 : Nat) (j3 : Int) (sz3 : Bool) (pz3 : Option Addr) (kz3 cz3 : Nat) (qz3 : Option Addr) (lz3 dz3 : Nat) (e3 : Bool), Below w.heap.size w W → SRep W (.agg #[.int .i64 i3, .bool s3, .slice p3 k3 c3, .slice q3 l3 d3, .int .i64 j3, .bool sz3, .slice pz3 kz3 cz3, .slice qz3 lz3 dz3, .bool e3]) (srd (a, b, x1, y1)) → Calls Tryz.prog g (#[.agg #[.int .i64 i3, .bool s3, .slice p3 k3 c3, .slice q3 l3 d3, .int .i64 j3, .bool sz3, .slice pz3 kz3 cz3, .slice qz3 lz3 dz3, .bool e3]] ++ cap) W fun e w' => e = .returned (.int .i64 (f (srd (a, b, x1, y1)))) ∧ Below W.heap.size W w') :
    Calls Tryz.prog 51 #[.agg #[.bool s1, .slice p1 k1 c1, .slice q1 l1 d1, .bool sz1, .slice pz1 kz1 cz1, .slice qz1 lz1 dz1, .bool x1, .bool y1], .func (.func g) #[] cap] w fun e w' => e = .returned (.tuple #[.int .i64 (if ilarge (a, b, x1, y1) then 0 else f (srd (a, b, x1, y1))), .int .i64 (icode (a, b, x1, y1))]) ∧ Below w.heap.size w w' := by
  unfold icode
  refine askN_any s1 p1 k1 c1 q1 l1 d1 sz1 pz1 kz1 cz1 qz1 lz1 dz1 x1 y1 g cap _ _ w fun W hW hBa hBo => ?_
  cases hL : (large a.2.1 a.2.2 || large b.2.1 b.2.2)
  · have hla : ilarge (a, b, x1, y1) = false := hL
    rw [hla]
    rw [Bool.or_eq_false_iff] at hL
    exact finN_ok _ _ _ W enter_ask1N fun W3 hW3 => ask1N_ok (w.heap.size + 1) w.heap.size s1 p1 k1 c1 q1 l1 d1 sz1 pz1 kz1 cz1 qz1 lz1 dz1 x1 y1 g cap a b _ W3 (hBo.below hW3) (hBa.below hW3) ((ha.below hW).below hW3) ((hb.below hW).below hW3) hL.1 hL.2 ((ht.below hW).below hW3) hfn
      fun W4 i3 s3 p3 k3 c3 q3 l3 d3 j3 sz3 pz3 kz3 cz3 qz3 lz3 dz3 e3 hW4 hS => hop hL.1 hL.2 W4 i3 s3 p3 k3 c3 q3 l3 d3 j3 sz3 pz3 kz3 cz3 qz3 lz3 dz3 e3 ((hW.trans (hW3.mono hW.size)).trans (hW4.mono (hW.trans (hW3.mono hW.size)).size)) hS
  · have hla : ilarge (a, b, x1, y1) = true := hL
    rw [hla]
    exact finN_err _ _ 1 W enter_ask1N fun W3 hW3 => ask1N_large (w.heap.size + 1) w.heap.size s1 p1 k1 c1 q1 l1 d1 sz1 pz1 kz1 cz1 qz1 lz1 dz1 x1 y1 g cap a b W3 (hBo.below hW3) (hBa.below hW3) ((ha.below hW).below hW3) ((hb.below hW).below hW3) hL ((ht.below hW).below hW3)
/-- The sign of a set, by the signs of its ends. -/
def ssg (e : Bool) (a b : Int) : Int := if e then 4 else if decide (0 < a) then 2 else if decide (b < 0) then -2 else if a == 0 && b == 0 then 0 else if a == 0 then 1 else if b == 0 then -1 else 3
theorem ssign_any (i1 : Int) (s1 : Bool) (p1 : Option Addr) (k1 c1 : Nat) (q1 : Option Addr) (l1 d1 : Nat) (j1 : Int) (sz1 : Bool) (pz1 : Option Addr) (kz1 cz1 : Nat) (qz1 : Option Addr) (lz1 dz1 : Nat) (e1 : Bool) (x : (Int × Bool × Nat × Nat) × (Int × Bool × Nat × Nat) × Bool) (w : World) (h : SRep w (.agg #[.int .i64 i1, .bool s1, .slice p1 k1 c1, .slice q1 l1 d1, .int .i64 j1, .bool sz1, .slice pz1 kz1 cz1, .slice qz1 lz1 dz1, .bool e1]) x) :
    Calls Tryz.prog 52 #[.agg #[.int .i64 i1, .bool s1, .slice p1 k1 c1, .slice q1 l1 d1, .int .i64 j1, .bool sz1, .slice pz1 kz1 cz1, .slice qz1 lz1 dz1, .bool e1]] w fun e w' => e = .returned (.int .i64 (ssg x.2.2 (esgn x.1) (esgn x.2.1))) ∧ Below w.heap.size w w' := by
  have h1 := h.ends
  have HL := hid (fun (W : World) (hW : Below w.heap.size w W) => esign_any i1 s1 p1 k1 c1 q1 l1 d1 x.1 W (h1.1.below hW))
  have HH := hid (fun (W : World) (hW : Below w.heap.size w W) => esign_any j1 sz1 pz1 kz1 cz1 qz1 lz1 dz1 x.2.1 W (h1.2.1.below hW))
  have he := h1.2.2
  obtain ⟨b, hb⟩ : ∃ b, b = x.2.2 := ⟨_, rfl⟩
  rw [← hb] at he ⊢
  subst he
  obtain ⟨a, ha⟩ : ∃ r, r = esgn x.1 := ⟨_, rfl⟩
  obtain ⟨b, hb2⟩ : ∃ r, r = esgn x.2.1 := ⟨_, rfl⟩
  rw [← ha] at HL ⊢
  rw [← hb2] at HH ⊢
  clear h h1 hb ha hb2
  go_enter Tryz.func52, Tryz.ntmps52
  go_wp2_with fail
  go_upto_region 1 with fail
  have HV := hid (pre1 w [.int .i64 i1, .bool s1, .slice p1 k1 c1, .slice q1 l1 d1, .int .i64 j1, .bool sz1, .slice pz1 kz1 cz1, .slice qz1 lz1 dz1, .bool e1] 61 nd9)
  generalize w.alloc (.cells #[.int .i64 i1, .bool s1, .slice p1 k1 c1, .slice q1 l1 d1, .int .i64 j1, .bool sz1, .slice pz1 kz1 cz1, .slice qz1 lz1 dz1, .bool e1] 61) = W0 at *
  have HQ := hid (QQ.i1 (cs := [.int .i64 i1, .bool s1, .slice p1 k1 c1, .slice q1 l1 d1, .int .i64 j1, .bool sz1, .slice pz1 kz1 cz1, .slice qz1 lz1 dz1, .bool e1]) HV.out.1 HV.out.2)
  have HS : Hid (∀ w', QQ w [(w.heap.size, [.int .i64 i1, .bool s1, .slice p1 k1 c1, .slice q1 l1 d1, .int .i64 j1, .bool sz1, .slice pz1 kz1 cz1, .slice qz1 lz1 dz1, .bool e1])] w' → (w'.cell? ⟨w.heap.size, 0, none⟩ = some (.int .i64 i1) ∧ w'.cell? ⟨w.heap.size, 1, none⟩ = some (.bool s1) ∧ w'.cell? ⟨w.heap.size, 2, none⟩ = some (.slice p1 k1 c1) ∧ w'.cell? ⟨w.heap.size, 3, none⟩ = some (.slice q1 l1 d1) ∧ w'.cell? ⟨w.heap.size, 4, none⟩ = some (.int .i64 j1) ∧ w'.cell? ⟨w.heap.size, 5, none⟩ = some (.bool sz1) ∧ w'.cell? ⟨w.heap.size, 6, none⟩ = some (.slice pz1 kz1 cz1) ∧ w'.cell? ⟨w.heap.size, 7, none⟩ = some (.slice qz1 lz1 dz1) ∧ w'.cell? ⟨w.heap.size, 8, none⟩ = some (.bool e1) ∧ Hid (QQ w [(w.heap.size, [.int .i64 i1, .bool s1, .slice p1 k1 c1, .slice q1 l1 d1, .int .i64 j1, .bool sz1, .slice pz1 kz1 cz1, .slice qz1 lz1 dz1, .bool e1])] w'))) :=
    hid fun w' hb => ⟨(hb.b1.cells9).1, (hb.b1.cells9).2.1, (hb.b1.cells9).2.2.1, (hb.b1.cells9).2.2.2.1, (hb.b1.cells9).2.2.2.2.1, (hb.b1.cells9).2.2.2.2.2.1, (hb.b1.cells9).2.2.2.2.2.2.1, (hb.b1.cells9).2.2.2.2.2.2.2.1, (hb.b1.cells9).2.2.2.2.2.2.2.2.1, hid hb⟩
  go_region_held3 (fun w' => w'.cell? ⟨w.heap.size, 0, none⟩ = some (.int .i64 i1) ∧ w'.cell? ⟨w.heap.size, 1, none⟩ = some (.bool s1) ∧ w'.cell? ⟨w.heap.size, 2, none⟩ = some (.slice p1 k1 c1) ∧ w'.cell? ⟨w.heap.size, 3, none⟩ = some (.slice q1 l1 d1) ∧ w'.cell? ⟨w.heap.size, 4, none⟩ = some (.int .i64 j1) ∧ w'.cell? ⟨w.heap.size, 5, none⟩ = some (.bool sz1) ∧ w'.cell? ⟨w.heap.size, 6, none⟩ = some (.slice pz1 kz1 cz1) ∧ w'.cell? ⟨w.heap.size, 7, none⟩ = some (.slice qz1 lz1 dz1) ∧ w'.cell? ⟨w.heap.size, 8, none⟩ = some (.bool e1) ∧ Hid (QQ w [(w.heap.size, [.int .i64 i1, .bool s1, .slice p1 k1 c1, .slice q1 l1 d1, .int .i64 j1, .bool sz1, .slice pz1 kz1 cz1, .slice qz1 lz1 dz1, .bool e1])] w'))
    (first | (refine HS.out _ ?_; first | (with_reducible exact HQ.out.drew) | (with_reducible assumption)))
    (first
      | (go_at_call_of 104 p1; refine (HL.out _ HQ.out.drew.bel).mono ?_; rintro e wa ⟨rfl, hB1⟩; have hQ1 := HQ.out.drew.call hB1)
      | (go_at_call_of 104 pz1; refine (HH.out _ hQ1.bel).mono ?_; rintro e wb ⟨rfl, hB2⟩; have hQ2 := hQ1.call hB2; obtain ⟨g0, g1, g2, g3, g4, g5, g6, g7, g8, _⟩ := hQ2.b1.cells9))
  rename_i hHeld
  clear hHeld
  have HE := hid hQ2.bel
  clear hQ1 hQ2 hB1 hB2
  cases e1
  · cases ha : decide (0 < a)
    · cases hb : decide (b < 0)
      · cases hc : (a == 0)
        · cases hd : (b == 0)
          · go_wp2_with fail
            go_ret
            exact ⟨by simp [ssg, ha, hb, hc, hd], HE.out⟩
          · go_wp2_with fail
            go_ret
            exact ⟨by simp [ssg, ha, hb, hc, hd], HE.out⟩
        · cases hd : (b == 0)
          · go_wp2_with fail
            go_ret
            exact ⟨by simp [ssg, ha, hb, hc, hd], HE.out⟩
          · go_wp2_with fail
            go_ret
            exact ⟨by simp [ssg, ha, hb, hc, hd], HE.out⟩
      · go_wp2_with fail
        go_ret
        exact ⟨by simp [ssg, ha, hb], HE.out⟩
    · go_wp2_with fail
      go_ret
      exact ⟨by simp [ssg, ha], HE.out⟩
  · go_wp2_with fail
    go_ret
    exact ⟨rfl, HE.out⟩
theorem enter_ssign (args : Array Value) (w : World) : (callFunc 52 args).run Tryz.prog w = .ok (.enter 52 args) w := call_enter Tryz.func52 (by kernel_rfl) rfl args w
def ssgn (x : (Int × Bool × Nat × Nat) × (Int × Bool × Nat × Nat) × Bool) : Int := ssg x.2.2 (esgn x.1) (esgn x.2.1)
theorem iSign_any (s1 : Bool) (p1 : Option Addr) (k1 c1 : Nat) (q1 : Option Addr) (l1 d1 : Nat) (sz1 : Bool) (pz1 : Option Addr) (kz1 cz1 : Nat) (qz1 : Option Addr) (lz1 dz1 : Nat) (x1 : Bool) (y1 : Bool) (a b : Bool × Nat × Nat) (w : World) (ha : NRep w (.agg #[.bool s1, .slice p1 k1 c1, .slice q1 l1 d1]) a) (hb : NRep w (.agg #[.bool sz1, .slice pz1 kz1 cz1, .slice qz1 lz1 dz1]) b) (ht : TabOk w) :
    Calls Tryz.prog 16 #[.agg #[.bool s1, .slice p1 k1 c1, .slice q1 l1 d1, .bool sz1, .slice pz1 kz1 cz1, .slice qz1 lz1 dz1, .bool x1, .bool y1]] w fun e w' => e = .returned (.tuple #[.int .i64 (if ilarge (a, b, x1, y1) then 0 else ssgn (srd (a, b, x1, y1))), .int .i64 (icode (a, b, x1, y1))]) ∧ Below w.heap.size w w' := by
  have HC := hid (fun (W : World) (hW : Below w.heap.size w W) => askN_val s1 p1 k1 c1 q1 l1 d1 sz1 pz1 kz1 cz1 qz1 lz1 dz1 x1 y1 52 #[] ssgn a b W (ha.below hW) (hb.below hW) (ht.below hW) enter_ssign (fun h1 h2 W4 i3 s3 p3 k3 c3 q3 l3 d3 j3 sz3 pz3 kz3 cz3 qz3 lz3 dz3 e3 hW4 hS => ssign_any i3 s3 p3 k3 c3 q3 l3 d3 j3 sz3 pz3 kz3 cz3 qz3 lz3 dz3 e3 _ W4 hS))
  obtain ⟨r, hr⟩ : ∃ r, r = (if ilarge (a, b, x1, y1) then 0 else ssgn (srd (a, b, x1, y1))) := ⟨_, rfl⟩
  obtain ⟨c, hc⟩ : ∃ r, r = icode (a, b, x1, y1) := ⟨_, rfl⟩
  rw [← hr, ← hc] at HC ⊢
  clear ha hb ht hr hc
  go_enter Tryz.func16, Tryz.ntmps16
  go_wp2_with fail
  have HV := hid (pre1 w [.bool s1, .slice p1 k1 c1, .slice q1 l1 d1, .bool sz1, .slice pz1 kz1 cz1, .slice qz1 lz1 dz1, .bool x1, .bool y1] 26 nd8)
  generalize w.alloc (.cells #[.bool s1, .slice p1 k1 c1, .slice q1 l1 d1, .bool sz1, .slice pz1 kz1 cz1, .slice qz1 lz1 dz1, .bool x1, .bool y1] 26) = W0 at *
  refine (HC.out _ HV.out.2).mono ?_
  rintro e w1 ⟨rfl, hB1⟩
  have HE := hid (HV.out.2.trans (hB1.mono HV.out.2.size))
  clear hB1
  go_wp2_with fail
  simp [bodyPost, results, Tryz.results16, go_sem]
  exact HE.out
end Go.Proofs.YtimjoejkjgklaaaGreatDoor
