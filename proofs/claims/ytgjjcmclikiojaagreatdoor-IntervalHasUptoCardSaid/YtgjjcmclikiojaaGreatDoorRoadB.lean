/- The road of an operation on two intervals that rounds: both, rounded. -/
import Derived.Test.YtgjjcmclikiojaaGreatDoorRoad
namespace Go.Proofs.YtgjjcmclikiojaaGreatDoor
open Go.RowKit Dg

theorem both1_ret {W : World} {B : Nat} {a0 a1 a2 a3 a4 a5 a6 a7 : Value} {tm : Array Value} {R : Ending → World → Prop} (h2 : tm[6]?.getD undef = .pointer (some ⟨B, 0, none⟩)) (hV : Box W B #[a0, a1, a2, a3, a4, a5, a6, a7]) (hR : R (.returned (.agg #[a0, a1, a2, a3, a4, a5, a6, a7])) W) :
    bodyPost Tryz.prog Tryz.f147 R .ret { tmps := tm, defers := [] } W := by
  obtain ⟨g0, g1, g2, g3, g4, g5, g6, g7, _⟩ := hV.cells8
  exact bodyPost_ret (v := .agg #[a0, a1, a2, a3, a4, a5, a6, a7]) (by simp [results, Tryz.results147, go_sem, h2, g0, g1, g2, g3, g4, g5, g6, g7]) rfl hR
set_option maxHeartbeats 2000000 in
set_option maxRecDepth 100000 in
theorem both1_ok (i1 : Int) (s1 : Bool) (p1 : Option Addr) (k1 c1 : Nat) (q1 : Option Addr) (l1 d1 : Nat) (j1 : Int) (sz1 : Bool) (pz1 : Option Addr) (kz1 cz1 : Nat) (qz1 : Option Addr) (lz1 dz1 : Nat) (e1 : Bool) (i2 : Int) (s2 : Bool) (p2 : Option Addr) (k2 c2 : Nat) (q2 : Option Addr) (l2 d2 : Nat) (j2 : Int) (sz2 : Bool) (pz2 : Option Addr) (kz2 cz2 : Nat) (qz2 : Option Addr) (lz2 dz2 : Nat) (e2 : Bool) (Bv Bo : Nat) (g : FuncId) (cap : Array Value) (x y r : (Int × Bool × Nat × Nat) × (Int × Bool × Nat × Nat) × Bool) (w : World)
    (hBv : Box w Bv #[.bool true]) (hBo : Box w Bo #[.func (.func g) #[] cap]) (h : SRep w (.agg #[.int .i64 i1, .bool s1, .slice p1 k1 c1, .slice q1 l1 d1, .int .i64 j1, .bool sz1, .slice pz1 kz1 cz1, .slice qz1 lz1 dz1, .bool e1]) x) (h' : SRep w (.agg #[.int .i64 i2, .bool s2, .slice p2 k2 c2, .slice q2 l2 d2, .int .i64 j2, .bool sz2, .slice pz2 kz2 cz2, .slice qz2 lz2 dz2, .bool e2]) y) (hx : x.2.2 = false) (hy : y.2.2 = false)
    (hr : EOk 100000 r.1 ∧ EOk 100000 r.2.1) (hb : ebig r.1 = false ∧ ebig r.2.1 = false) (he : r.2.2 = false)
    (hfn : ∀ args W, (callFunc g args).run Tryz.prog W = .ok (.enter g args) W)
    (hop : ∀ W, Below w.heap.size w W → SRep W (.agg #[.int .i64 i1, .bool s1, .slice p1 k1 c1, .slice q1 l1 d1, .int .i64 j1, .bool sz1, .slice pz1 kz1 cz1, .slice qz1 lz1 dz1, .bool e1]) x → SRep W (.agg #[.int .i64 i2, .bool s2, .slice p2 k2 c2, .slice q2 l2 d2, .int .i64 j2, .bool sz2, .slice pz2 kz2 cz2, .slice qz2 lz2 dz2, .bool e2]) y → Calls Tryz.prog g (#[.agg #[.int .i64 i1, .bool s1, .slice p1 k1 c1, .slice q1 l1 d1, .int .i64 j1, .bool sz1, .slice pz1 kz1 cz1, .slice qz1 lz1 dz1, .bool e1], .agg #[.int .i64 i2, .bool s2, .slice p2 k2 c2, .slice q2 l2 d2, .int .i64 j2, .bool sz2, .slice pz2 kz2 cz2, .slice qz2 lz2 dz2, .bool e2]] ++ cap) W fun e w' => ∃ i3 s3 p3 k3 c3 q3 l3 d3 j3 sz3 pz3 kz3 cz3 qz3 lz3 dz3 e3, e = .returned (.agg #[.int .i64 i3, .bool s3, .slice p3 k3 c3, .slice q3 l3 d3, .int .i64 j3, .bool sz3, .slice pz3 kz3 cz3, .slice qz3 lz3 dz3, .bool e3]) ∧ Hid (SRep w' (.agg #[.int .i64 i3, .bool s3, .slice p3 k3 c3, .slice q3 l3 d3, .int .i64 j3, .bool sz3, .slice pz3 kz3 cz3, .slice qz3 lz3 dz3, .bool e3]) r) ∧ Below W.heap.size W w') :
    Calls Tryz.prog 147 #[.agg #[.int .i64 i1, .bool s1, .slice p1 k1 c1, .slice q1 l1 d1, .int .i64 j1, .bool sz1, .slice pz1 kz1 cz1, .slice qz1 lz1 dz1, .bool e1], .agg #[.int .i64 i2, .bool s2, .slice p2 k2 c2, .slice q2 l2 d2, .int .i64 j2, .bool sz2, .slice pz2 kz2 cz2, .slice qz2 lz2 dz2, .bool e2], .pointer (some ⟨Bv, 0, none⟩), .pointer (some ⟨Bo, 0, none⟩)] w fun e w' => ∃ s3 p3 k3 c3 q3 l3 d3 sz3 pz3 kz3 cz3 qz3 lz3 dz3 x3 y3, e = .returned (.agg #[.bool s3, .slice p3 k3 c3, .slice q3 l3 d3, .bool sz3, .slice pz3 kz3 cz3, .slice qz3 lz3 dz3, .bool x3, .bool y3]) ∧ Hid (GRep w' (.agg #[.bool s3, .slice p3 k3 c3, .slice q3 l3 d3, .bool sz3, .slice pz3 kz3 cz3, .slice qz3 lz3 dz3, .bool x3, .bool y3]) (giv r)) ∧ Below w.heap.size w w' := by
  have HO := hid (fun (W : World) (hW : Below w.heap.size w W) => hop W hW (h.below hW) (h'.below hW))
  have HI := hid (fun (W : World) (i3 : Int) (s3 : Bool) (p3 : Option Addr) (k3 c3 : Nat) (q3 : Option Addr) (l3 d3 : Nat) (j3 : Int) (sz3 : Bool) (pz3 : Option Addr) (kz3 cz3 : Nat) (qz3 : Option Addr) (lz3 dz3 : Nat) (e3 : Bool) (hS : SRep W (.agg #[.int .i64 i3, .bool s3, .slice p3 k3 c3, .slice q3 l3 d3, .int .i64 j3, .bool sz3, .slice pz3 kz3 cz3, .slice qz3 lz3 dz3, .bool e3]) r) => siv_ok i3 s3 p3 k3 c3 q3 l3 d3 j3 sz3 pz3 kz3 cz3 qz3 lz3 dz3 e3 r W hS hr hb he)
  have e1' := h.ends.2.2
  have e2' := h'.ends.2.2
  rw [hx] at e1'
  rw [hy] at e2'
  subst e1' e2'
  obtain ⟨D, hD⟩ : ∃ D, D = giv r := ⟨_, rfl⟩
  rw [← hD] at HI ⊢
  have HP := hid (And.intro hBv hBo)
  have hlo := hBo.lt
  have hlv := hBv.lt
  clear h h' hx hy hr hb he hop hD hBv hBo
  go_enter Tryz.func147, Tryz.ntmps147
  go_upto_region 1 with fail
  have HV := hid (pre3 w [.int .i64 i1, .bool s1, .slice p1 k1 c1, .slice q1 l1 d1, .int .i64 j1, .bool sz1, .slice pz1 kz1 cz1, .slice qz1 lz1 dz1, .bool false] [.int .i64 i2, .bool s2, .slice p2 k2 c2, .slice q2 l2 d2, .int .i64 j2, .bool sz2, .slice pz2 kz2 cz2, .slice qz2 lz2 dz2, .bool false] [.bool false, .slice none 0 0, .slice none 0 0, .bool false, .slice none 0 0, .slice none 0 0, .bool false, .bool false] 61 61 26 ⟨trivial, trivial, trivial, trivial, trivial, trivial, trivial, trivial, trivial, trivial⟩ ⟨trivial, trivial, trivial, trivial, trivial, trivial, trivial, trivial, trivial, trivial⟩ ⟨trivial, trivial, trivial, trivial, trivial, trivial, trivial, trivial, trivial⟩)
  generalize ((w.alloc (.cells #[.int .i64 i1, .bool s1, .slice p1 k1 c1, .slice q1 l1 d1, .int .i64 j1, .bool sz1, .slice pz1 kz1 cz1, .slice qz1 lz1 dz1, .bool false] 61)).alloc (.cells #[.int .i64 i2, .bool s2, .slice p2 k2 c2, .slice q2 l2 d2, .int .i64 j2, .bool sz2, .slice pz2 kz2 cz2, .slice qz2 lz2 dz2, .bool false] 61)).alloc (.cells #[.bool false, .slice none 0 0, .slice none 0 0, .bool false, .slice none 0 0, .slice none 0 0, .bool false, .bool false] 26) = W0 at *
  obtain ⟨t0, _⟩ := (HP.out.1.below HV.out.2.2.2).cells1
  go_wp2_with fail
  refine (requireArg_ok W0).mono ?_
  rintro e w1 ⟨rfl, rfl⟩
  clear t0
  obtain ⟨t0, _⟩ := (HP.out.2.below HV.out.2.2.2).cells1
  obtain ⟨m0, m1, m2, m3, m4, m5, m6, m7, m8, _⟩ := HV.out.1.cells9
  obtain ⟨n0, n1, n2, n3, n4, n5, n6, n7, n8, _⟩ := HV.out.2.1.cells9
  go_wp2_with fail
  refine (HO.out _ HV.out.2.2.2).mono ?_
  rintro e w2 ⟨i3, s3, p3, k3, c3, q3, l3, d3, j3, sz3, pz3, kz3, cz3, qz3, lz3, dz3, e3, rfl, hS, hB2⟩
  have HB2 := hid hB2
  clear hB2 t0 m0 m1 m2 m3 m4 m5 m6 m7 m8 n0 n1 n2 n3 n4 n5 n6 n7 n8
  go_wp2_with fail
  refine (HI.out w2 i3 s3 p3 k3 c3 q3 l3 d3 j3 sz3 pz3 kz3 cz3 qz3 lz3 dz3 e3 hS.out).mono ?_
  rintro e w3 ⟨s4, p4, k4, c4, q4, l4, d4, sz4, pz4, kz4, cz4, qz4, lz4, dz4, x4, y4, rfl, hG, hB3⟩
  have HE := hid (And.intro (HV.out.2.2.1.below (held_any HB2.out hB3)) (HV.out.2.2.2.trans ((held_any HB2.out hB3).mono HV.out.2.2.2.size)))
  clear hB3
  obtain ⟨g0, g1, g2, g3, g4, g5, g6, g7, f0, f1, f2, f3, f4, f5, f6, f7⟩ := HE.out.1.cells8
  go_wp2_with fail
  exact both1_ret rfl (HE.out.1.stores [.bool s4, .slice p4 k4 c4, .slice q4 l4 d4, .bool sz4, .slice pz4 kz4 cz4, .slice qz4 lz4 dz4, .bool x4, .bool y4] rfl ⟨trivial, trivial, trivial, trivial, trivial, trivial, trivial, trivial, trivial⟩) ⟨s4, p4, k4, c4, q4, l4, d4, sz4, pz4, kz4, cz4, qz4, lz4, dz4, x4, y4, rfl, hid (GRep.stores (k := 0) (l := [.bool s4, .slice p4 k4 c4, .slice q4 l4 d4, .bool sz4, .slice pz4 kz4 cz4, .slice qz4 lz4 dz4, .bool x4, .bool y4]) hG.out HE.out.1 ⟨trivial, trivial, trivial, trivial, trivial, trivial, trivial, trivial, trivial⟩), Below.stores (k := 0) (l := [.bool s4, .slice p4 k4 c4, .slice q4 l4 d4, .bool sz4, .slice pz4 kz4 cz4, .slice qz4 lz4 dz4, .bool x4, .bool y4]) HE.out.2 (by omega)⟩

theorem enter_askBothI1 (args : Array Value) (w : World) : (callFunc 151 args).run Tryz.prog w = .ok (.enter 151 args) w := call_enter Tryz.func151 (by kernel_rfl) rfl args w
theorem enter_both1 (args : Array Value) (w : World) : (callFunc 147 args).run Tryz.prog w = .ok (.enter 147 args) w := call_enter Tryz.func147 (by kernel_rfl) rfl args w
theorem enter_rounded1 (args : Array Value) (w : World) : (callFunc 169 args).run Tryz.prog w = .ok (.enter 169 args) w := call_enter Tryz.func169 (by kernel_rfl) rfl args w

theorem askBothI_ret {W : World} {B : Nat} {a0 a1 a2 a3 a4 a5 a6 a7 ev : Value} {tm : Array Value} {R : Ending → World → Prop} (h2 : tm[6]?.getD undef = .pointer (some ⟨B, 0, none⟩)) (h3 : tm[7]?.getD undef = ev) (hV : Box W B #[a0, a1, a2, a3, a4, a5, a6, a7]) (hR : R (.returned (.tuple #[.agg #[a0, a1, a2, a3, a4, a5, a6, a7], ev])) W) :
    bodyPost Tryz.prog Tryz.f89 R .ret { tmps := tm, defers := [] } W := by
  obtain ⟨g0, g1, g2, g3, g4, g5, g6, g7, _⟩ := hV.cells8
  exact bodyPost_ret (v := .tuple #[.agg #[a0, a1, a2, a3, a4, a5, a6, a7], ev]) (by simp [results, Tryz.results89, go_sem, h2, h3, g0, g1, g2, g3, g4, g5, g6, g7]) rfl hR
set_option maxHeartbeats 2000000 in
set_option maxRecDepth 100000 in
theorem askBothI_ok (s1 : Bool) (p1 : Option Addr) (k1 c1 : Nat) (q1 : Option Addr) (l1 d1 : Nat) (sz1 : Bool) (pz1 : Option Addr) (kz1 cz1 : Nat) (qz1 : Option Addr) (lz1 dz1 : Nat) (x1 : Bool) (y1 : Bool) (s2 : Bool) (p2 : Option Addr) (k2 c2 : Nat) (q2 : Option Addr) (l2 d2 : Nat) (sz2 : Bool) (pz2 : Option Addr) (kz2 cz2 : Nat) (qz2 : Option Addr) (lz2 dz2 : Nat) (x2 : Bool) (y2 : Bool) (g : FuncId) (cap : Array Value) (a b a' b' : Bool × Nat × Nat) (D : (Bool × Nat × Nat) × (Bool × Nat × Nat) × Bool × Bool) (w : World)
    (ha : NRep w (.agg #[.bool s1, .slice p1 k1 c1, .slice q1 l1 d1]) a) (hb : NRep w (.agg #[.bool sz1, .slice pz1 kz1 cz1, .slice qz1 lz1 dz1]) b) (ha' : NRep w (.agg #[.bool s2, .slice p2 k2 c2, .slice q2 l2 d2]) a') (hb' : NRep w (.agg #[.bool sz2, .slice pz2 kz2 cz2, .slice qz2 lz2 dz2]) b')
    (h1 : large a.2.1 a.2.2 = false) (h2 : large b.2.1 b.2.2 = false) (h3 : large a'.2.1 a'.2.2 = false) (h4 : large b'.2.1 b'.2.2 = false) (ht : TabOk w)
    (hfn : ∀ args W, (callFunc g args).run Tryz.prog W = .ok (.enter g args) W)
    (hop : ∀ W (i3 : Int) (s3 : Bool) (p3 : Option Addr) (k3 c3 : Nat) (q3 : Option Addr) (l3 d3 : Nat) (j3 : Int) (sz3 : Bool) (pz3 : Option Addr) (kz3 cz3 : Nat) (qz3 : Option Addr) (lz3 dz3 : Nat) (e3 : Bool) (i4 : Int) (s4 : Bool) (p4 : Option Addr) (k4 c4 : Nat) (q4 : Option Addr) (l4 d4 : Nat) (j4 : Int) (sz4 : Bool) (pz4 : Option Addr) (kz4 cz4 : Nat) (qz4 : Option Addr) (lz4 dz4 : Nat) (e4 : Bool), Below w.heap.size w W → SRep W (.agg #[.int .i64 i3, .bool s3, .slice p3 k3 c3, .slice q3 l3 d3, .int .i64 j3, .bool sz3, .slice pz3 kz3 cz3, .slice qz3 lz3 dz3, .bool e3]) (srd (a, b, x1, y1)) → SRep W (.agg #[.int .i64 i4, .bool s4, .slice p4 k4 c4, .slice q4 l4 d4, .int .i64 j4, .bool sz4, .slice pz4 kz4 cz4, .slice qz4 lz4 dz4, .bool e4]) (srd (a', b', x2, y2)) → Calls Tryz.prog g (#[.agg #[.int .i64 i3, .bool s3, .slice p3 k3 c3, .slice q3 l3 d3, .int .i64 j3, .bool sz3, .slice pz3 kz3 cz3, .slice qz3 lz3 dz3, .bool e3], .agg #[.int .i64 i4, .bool s4, .slice p4 k4 c4, .slice q4 l4 d4, .int .i64 j4, .bool sz4, .slice pz4 kz4 cz4, .slice qz4 lz4 dz4, .bool e4]] ++ cap) W fun e w' => ∃ s5 p5 k5 c5 q5 l5 d5 sz5 pz5 kz5 cz5 qz5 lz5 dz5 x5 y5, e = .returned (.agg #[.bool s5, .slice p5 k5 c5, .slice q5 l5 d5, .bool sz5, .slice pz5 kz5 cz5, .slice qz5 lz5 dz5, .bool x5, .bool y5]) ∧ Hid (GRep w' (.agg #[.bool s5, .slice p5 k5 c5, .slice q5 l5 d5, .bool sz5, .slice pz5 kz5 cz5, .slice qz5 lz5 dz5, .bool x5, .bool y5]) D) ∧ Below W.heap.size W w') :
    Calls Tryz.prog 89 #[.agg #[.bool s1, .slice p1 k1 c1, .slice q1 l1 d1, .bool sz1, .slice pz1 kz1 cz1, .slice qz1 lz1 dz1, .bool x1, .bool y1], .agg #[.bool s2, .slice p2 k2 c2, .slice q2 l2 d2, .bool sz2, .slice pz2 kz2 cz2, .slice qz2 lz2 dz2, .bool x2, .bool y2], .func (.func g) #[] cap] w fun e w' => ∃ s5 p5 k5 c5 q5 l5 d5 sz5 pz5 kz5 cz5 qz5 lz5 dz5 x5 y5, e = .returned (.tuple #[.agg #[.bool s5, .slice p5 k5 c5, .slice q5 l5 d5, .bool sz5, .slice pz5 kz5 cz5, .slice qz5 lz5 dz5, .bool x5, .bool y5], .int .i64 0]) ∧ Hid (GRep w' (.agg #[.bool s5, .slice p5 k5 c5, .slice q5 l5 d5, .bool sz5, .slice pz5 kz5 cz5, .slice qz5 lz5 dz5, .bool x5, .bool y5]) D) ∧ Below w.heap.size w w' := by
  have hmf := makeFunc_run
  have HC := hid (fun (W : World) (hW : Below w.heap.size w W) (b1 : Box W w.heap.size #[.bool s1, .slice p1 k1 c1, .slice q1 l1 d1, .bool sz1, .slice pz1 kz1 cz1, .slice qz1 lz1 dz1, .bool x1, .bool y1]) (b2 : Box W (w.heap.size + 1) #[.bool s2, .slice p2 k2 c2, .slice q2 l2 d2, .bool sz2, .slice pz2 kz2 cz2, .slice qz2 lz2 dz2, .bool x2, .bool y2]) (b3 : Box W (w.heap.size + 1 + 1) #[.func (.func g) #[] cap]) =>
    finI_ok 151 #[.pointer (some ⟨w.heap.size, 0, none⟩), .pointer (some ⟨w.heap.size + 1, 0, none⟩), .pointer (some ⟨w.heap.size + 1 + 1, 0, none⟩)] D W enter_askBothI1
      (fun W' hW' => askBothI1_ok w.heap.size (w.heap.size + 1) (w.heap.size + 1 + 1) s1 p1 k1 c1 q1 l1 d1 sz1 pz1 kz1 cz1 qz1 lz1 dz1 x1 y1 s2 p2 k2 c2 q2 l2 d2 sz2 pz2 kz2 cz2 qz2 lz2 dz2 x2 y2 g cap a b a' b' D W' (b1.below hW') (b2.below hW') (b3.below hW')
        ((ha.below hW).below hW') ((hb.below hW).below hW') ((ha'.below hW).below hW') ((hb'.below hW).below hW') h1 h2 h3 h4 ((ht.below hW).below hW') hfn
        (fun W2 i3 s3 p3 k3 c3 q3 l3 d3 j3 sz3 pz3 kz3 cz3 qz3 lz3 dz3 e3 i4 s4 p4 k4 c4 q4 l4 d4 j4 sz4 pz4 kz4 cz4 qz4 lz4 dz4 e4 h5 => hop W2 i3 s3 p3 k3 c3 q3 l3 d3 j3 sz3 pz3 kz3 cz3 qz3 lz3 dz3 e3 i4 s4 p4 k4 c4 q4 l4 d4 j4 sz4 pz4 kz4 cz4 qz4 lz4 dz4 e4 (hW.trans ((hW'.trans (h5.mono hW'.size)).mono hW.size)))))
  clear ha hb ha' hb' h1 h2 h3 h4 ht hop hfn
  go_enter Tryz.func89, Tryz.ntmps89
  go_wp2_with fail
  have HV := hid (pre4 w [.bool s1, .slice p1 k1 c1, .slice q1 l1 d1, .bool sz1, .slice pz1 kz1 cz1, .slice qz1 lz1 dz1, .bool x1, .bool y1] [.bool s2, .slice p2 k2 c2, .slice q2 l2 d2, .bool sz2, .slice pz2 kz2 cz2, .slice qz2 lz2 dz2, .bool x2, .bool y2] [.func (.func g) #[] cap] [.bool false, .slice none 0 0, .slice none 0 0, .bool false, .slice none 0 0, .slice none 0 0, .bool false, .bool false] 26 26 100 26 ⟨trivial, trivial, trivial, trivial, trivial, trivial, trivial, trivial, trivial⟩ ⟨trivial, trivial, trivial, trivial, trivial, trivial, trivial, trivial, trivial⟩ ⟨trivial, trivial⟩ ⟨trivial, trivial, trivial, trivial, trivial, trivial, trivial, trivial, trivial⟩)
  generalize (((w.alloc (.cells #[.bool s1, .slice p1 k1 c1, .slice q1 l1 d1, .bool sz1, .slice pz1 kz1 cz1, .slice qz1 lz1 dz1, .bool x1, .bool y1] 26)).alloc (.cells #[.bool s2, .slice p2 k2 c2, .slice q2 l2 d2, .bool sz2, .slice pz2 kz2 cz2, .slice qz2 lz2 dz2, .bool x2, .bool y2] 26)).alloc (.cells #[.func (.func g) #[] cap] 100)).alloc (.cells #[.bool false, .slice none 0 0, .slice none 0 0, .bool false, .slice none 0 0, .slice none 0 0, .bool false, .bool false] 26) = W0 at *
  refine (HC.out _ HV.out.2.2.2.2 HV.out.1 HV.out.2.1 HV.out.2.2.1).mono ?_
  rintro e w1 ⟨s5, p5, k5, c5, q5, l5, d5, sz5, pz5, kz5, cz5, qz5, lz5, dz5, x5, y5, rfl, hG, hB1⟩
  have HE := hid (And.intro (HV.out.2.2.2.1.below hB1) (HV.out.2.2.2.2.trans (hB1.mono HV.out.2.2.2.2.size)))
  clear hB1
  obtain ⟨g0, g1, g2, g3, g4, g5, g6, g7, f0, f1, f2, f3, f4, f5, f6, f7⟩ := HE.out.1.cells8
  go_wp2_with fail
  exact askBothI_ret rfl rfl (HE.out.1.stores [.bool s5, .slice p5 k5 c5, .slice q5 l5 d5, .bool sz5, .slice pz5 kz5 cz5, .slice qz5 lz5 dz5, .bool x5, .bool y5] rfl ⟨trivial, trivial, trivial, trivial, trivial, trivial, trivial, trivial, trivial⟩) ⟨s5, p5, k5, c5, q5, l5, d5, sz5, pz5, kz5, cz5, qz5, lz5, dz5, x5, y5, rfl, hid (GRep.stores (k := 0) (l := [.bool s5, .slice p5 k5 c5, .slice q5 l5 d5, .bool sz5, .slice pz5 kz5 cz5, .slice qz5 lz5 dz5, .bool x5, .bool y5]) hG.out HE.out.1 ⟨trivial, trivial, trivial, trivial, trivial, trivial, trivial, trivial, trivial⟩), Below.stores (k := 0) (l := [.bool s5, .slice p5 k5 c5, .slice q5 l5 d5, .bool sz5, .slice pz5 kz5 cz5, .slice qz5 lz5 dz5, .bool x5, .bool y5]) HE.out.2 (by omega)⟩
end Go.Proofs.YtgjjcmclikiojaaGreatDoor
