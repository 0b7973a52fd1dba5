/- Whether a number is in an interval: the program. Whether a number is in an interval: ask, Has. The sign of an end; the absolute values of a set, of the program. Root of the program. -/
import Derived.Test.YtheojajaefjecaaGreatDoorSets
import Derived.Test.YtheojajaefjecaaGreatDoorIvC
import Derived.Test.YtheojajaefjecaaGreatDoorFin
import Derived.Test.YtheojajaefjecaaGreatDoorIsJ
import Derived.Test.YtheojajaefjecaaGreatDoorOneI
import Derived.Test.YtheojajaefjecaaGreatDoorRndJ
import Derived.Test.YtheojajaefjecaaGreatDoorGrtQ
import Derived.Test.YtheojajaefjecaaGreatDoorGrtU
import Derived.Test.YtheojajaefjecaaGreatDoorMkI
namespace Go.Proofs.YtheojajaefjecaaGreatDoor
open Go.RowKit Dg
def shas (S : (Int × Bool × Nat × Nat) × (Int × Bool × Nat × Nat) × Bool) (x : Int × Bool × Nat × Nat) : Bool := decide (ecmp S.1 x ≤ 0) && decide (ecmp x S.2.1 ≤ 0)
end Go.Proofs.YtheojajaefjecaaGreatDoor

namespace Go.Proofs.YtheojajaefjecaaGreatDoor
open Go.RowKit Dg
def hval (a : (Bool × Nat × Nat) × (Bool × Nat × Nat) × Bool × Bool) (t : Bool × Nat × Nat) : Bool := if ilarge a || large t.2.1 t.2.2 then false else shas (srd a) (0, fr t)
end Go.Proofs.YtheojajaefjecaaGreatDoor

set_option maxHeartbeats 1000000
set_option maxRecDepth 100000
namespace Go.Proofs.YtheojajaefjecaaGreatDoor
open Go.RowKit Dg
def esgn (x : Int × Bool × Nat × Nat) : Int := if x.1 = 0 then sgn x.2.1 x.2.2.1 else x.1
theorem esign_fin (s1 : Bool) (p1 : Option Addr) (k1 c1 : Nat) (q1 : Option Addr) (l1 d1 : Nat) (t : Bool × Nat × Nat) (w : World) (h : FNorm w (.agg #[.bool s1, .slice p1 k1 c1, .slice q1 l1 d1]) t) :
  Calls Tryz.prog 108 #[.agg #[.int .i64 0, .bool s1, .slice p1 k1 c1, .slice q1 l1 d1]] w fun e w' => e = .returned (.int .i64 (sgn t.1 t.2.1)) ∧ Below w.heap.size w w' := by
 have HO := hid (fun (W : World) (hW : Below w.heap.size w W) => Sign_any (.agg #[.bool s1, .slice p1 k1 c1, .slice q1 l1 d1]) t.1 t.2.1 t.2.2 W (FNorm.below h hW))
 clear h
 obtain ⟨r, hr⟩ : ∃ r, r = sgn t.1 t.2.1 := ⟨_, rfl⟩
 rw [← hr] at HO ⊢
 clear hr
 go_enter Tryz.func108, Tryz.ntmps108
 go_wp2_with fail
 generalize hA : World.alloc _ _ = W0
 have HV := hid (pre1_o hA nd4)
 clear hA
 refine (infinite_any 0 s1 p1 k1 c1 q1 l1 d1 W0).mono ?_
 rintro e w1 ⟨rfl, hB1⟩
 rw [show ((0 : Int) != 0) = false from rfl]
 have HE := hid (And.intro (HV.out.1.below hB1) (HV.out.2.trans (hB1.mono HV.out.2.size)))
 clear hB1
 obtain ⟨u0, u1, u2, u3, _⟩ := HE.out.1.cells4
 go_wp2_with fail
 refine (HO.out _ HE.out.2).mono ?_
 rintro e w2 ⟨rfl, hB2⟩
 go_wp2_with fail
 go_ret
 exact ⟨rfl, HE.out.2.trans (hB2.mono HE.out.2.size)⟩
theorem esign_inf (i1 : Int) (s1 : Bool) (p1 : Option Addr) (k1 c1 : Nat) (q1 : Option Addr) (l1 d1 : Nat) (w : World) (h : i1 ≠ 0) :
  Calls Tryz.prog 108 #[.agg #[.int .i64 i1, .bool s1, .slice p1 k1 c1, .slice q1 l1 d1]] w fun e w' => e = .returned (.int .i64 i1) ∧ Below w.heap.size w w' := by
 have hne : (i1 != 0) = true := by simpa using h
 have HN := hid hne
 clear h hne
 go_enter Tryz.func108, Tryz.ntmps108
 go_wp2_with fail
 generalize hA : World.alloc _ _ = W0
 have HV := hid (pre1_o hA nd4)
 clear hA
 refine (infinite_any i1 s1 p1 k1 c1 q1 l1 d1 W0).mono ?_
 rintro e w1 ⟨rfl, hB1⟩
 rw [HN.out]
 have HE := hid (And.intro (HV.out.1.below hB1) (HV.out.2.trans (hB1.mono HV.out.2.size)))
 clear hB1
 obtain ⟨u0, u1, u2, u3, _⟩ := HE.out.1.cells4
 go_wp2_with fail
 go_ret
 exact ⟨rfl, HE.out.2⟩
theorem esign_any (i1 : Int) (s1 : Bool) (p1 : Option Addr) (k1 c1 : Nat) (q1 : Option Addr) (l1 d1 : Nat) (x : Int × Bool × Nat × Nat) (w : World) (h : ERep w (.agg #[.int .i64 i1, .bool s1, .slice p1 k1 c1, .slice q1 l1 d1]) x) :
  Calls Tryz.prog 108 #[.agg #[.int .i64 i1, .bool s1, .slice p1 k1 c1, .slice q1 l1 d1]] w fun e w' => e = .returned (.int .i64 (esgn x)) ∧ Below w.heap.size w w' := by
 obtain ⟨hi, hF⟩ := h.frac
 unfold esgn
 by_cases h0 : x.1 = 0
 ·rw [if_pos h0]
  rw [h0] at hi
  subst hi
  exact esign_fin s1 p1 k1 c1 q1 l1 d1 x.2 w hF
 ·rw [if_neg h0]
  rw [← hi]
  exact esign_inf i1 s1 p1 k1 c1 q1 l1 d1 w (by rw [hi]; exact h0)
end Go.Proofs.YtheojajaefjecaaGreatDoor

set_option maxHeartbeats 4000000
set_option maxRecDepth 100000
namespace Go.Proofs.YtheojajaefjecaaGreatDoor
open Go.RowKit Dg
theorem rootDf_ret {W : World} {B : Nat} {a0 a1 a2 : Value} {tm : Array Value} {R : Ending → World → Prop} (h2 : tm[4]?.getD undef = .pointer (some ⟨B, 0, none⟩)) (hV : Box W B #[a0, a1, a2]) (hR : R (.returned (.agg #[a0, a1, a2])) W) :
  bodyPost Tryz.prog Tryz.f189 R .ret { tmps := tm, defers := [] } W := by
 obtain ⟨g0, g1, g2, _⟩ := hV.cells3
 exact bodyPost_ret (v := .agg #[a0, a1, a2]) (by simp [results, Tryz.results189, go_sem, h2, g0, g1, g2]) rfl hR
theorem rootUf_ret {W : World} {B : Nat} {a0 a1 a2 : Value} {tm : Array Value} {R : Ending → World → Prop} (h2 : tm[4]?.getD undef = .pointer (some ⟨B, 0, none⟩)) (hV : Box W B #[a0, a1, a2]) (hR : R (.returned (.agg #[a0, a1, a2])) W) :
  bodyPost Tryz.prog Tryz.f191 R .ret { tmps := tm, defers := [] } W := by
 obtain ⟨g0, g1, g2, _⟩ := hV.cells3
 exact bodyPost_ret (v := .agg #[a0, a1, a2]) (by simp [results, Tryz.results191, go_sem, h2, g0, g1, g2]) rfl hR
theorem rootD_ret {W : World} {B : Nat} {a0 a1 a2 a3 : Value} {tm : Array Value} {R : Ending → World → Prop} (h2 : tm[6]?.getD undef = .pointer (some ⟨B, 0, none⟩)) (hV : Box W B #[a0, a1, a2, a3]) (hR : R (.returned (.agg #[a0, a1, a2, a3])) W) :
  bodyPost Tryz.prog Tryz.f133 R .ret { tmps := tm, defers := [] } W := by
 obtain ⟨g0, g1, g2, g3, _⟩ := hV.cells4
 exact bodyPost_ret (v := .agg #[a0, a1, a2, a3]) (by simp [results, Tryz.results133, go_sem, h2, g0, g1, g2, g3]) rfl hR
theorem rootU_ret {W : World} {B : Nat} {a0 a1 a2 a3 : Value} {tm : Array Value} {R : Ending → World → Prop} (h2 : tm[6]?.getD undef = .pointer (some ⟨B, 0, none⟩)) (hV : Box W B #[a0, a1, a2, a3]) (hR : R (.returned (.agg #[a0, a1, a2, a3])) W) :
  bodyPost Tryz.prog Tryz.f134 R .ret { tmps := tm, defers := [] } W := by
 obtain ⟨g0, g1, g2, g3, _⟩ := hV.cells4
 exact bodyPost_ret (v := .agg #[a0, a1, a2, a3]) (by simp [results, Tryz.results134, go_sem, h2, g0, g1, g2, g3]) rfl hR
theorem sroot_ret {W : World} {B : Nat} {a0 a1 a2 a3 a4 a5 a6 a7 a8 : Value} {tm : Array Value} {R : Ending → World → Prop} (h2 : tm[6]?.getD undef = .pointer (some ⟨B, 0, none⟩)) (hV : Box W B #[a0, a1, a2, a3, a4, a5, a6, a7, a8]) (hR : R (.returned (.agg #[a0, a1, a2, a3, a4, a5, a6, a7, a8])) W) :
  bodyPost Tryz.prog Tryz.f64 R .ret { tmps := tm, defers := [] } W := by
 obtain ⟨g0, g1, g2, g3, g4, g5, g6, g7, g8, _⟩ := hV.cells9
 exact bodyPost_ret (v := .agg #[a0, a1, a2, a3, a4, a5, a6, a7, a8]) (by simp [results, Tryz.results64, go_sem, h2, g0, g1, g2, g3, g4, g5, g6, g7, g8]) rfl hR
theorem Root1_ret {W : World} {B : Nat} {a0 a1 a2 a3 a4 a5 a6 a7 a8 : Value} {tm : Array Value} {R : Ending → World → Prop} (h2 : tm[4]?.getD undef = .pointer (some ⟨B, 0, none⟩)) (hV : Box W B #[a0, a1, a2, a3, a4, a5, a6, a7, a8]) (hR : R (.returned (.agg #[a0, a1, a2, a3, a4, a5, a6, a7, a8])) W) :
  bodyPost Tryz.prog Tryz.f63 R .ret { tmps := tm, defers := [] } W := by
 obtain ⟨g0, g1, g2, g3, g4, g5, g6, g7, g8, _⟩ := hV.cells9
 exact bodyPost_ret (v := .agg #[a0, a1, a2, a3, a4, a5, a6, a7, a8]) (by simp [results, Tryz.results63, go_sem, h2, g0, g1, g2, g3, g4, g5, g6, g7, g8]) rfl hR
theorem iRoot_ret {W : World} {B : Nat} {a0 a1 a2 a3 a4 a5 a6 a7 ev : Value} {tm : Array Value} {R : Ending → World → Prop} (h2 : tm[6]?.getD undef = .pointer (some ⟨B, 0, none⟩)) (h3 : tm[7]?.getD undef = ev) (hV : Box W B #[a0, a1, a2, a3, a4, a5, a6, a7]) (hR : R (.returned (.tuple #[.agg #[a0, a1, a2, a3, a4, a5, a6, a7], ev])) W) :
  bodyPost Tryz.prog Tryz.f22 R .ret { tmps := tm, defers := [] } W := by
 obtain ⟨g0, g1, g2, g3, g4, g5, g6, g7, _⟩ := hV.cells8
 exact bodyPost_ret (v := .tuple #[.agg #[a0, a1, a2, a3, a4, a5, a6, a7], ev]) (by simp [results, Tryz.results22, go_sem, h2, h3, g0, g1, g2, g3, g4, g5, g6, g7]) rfl hR
noncomputable def ertd (x : Int × Bool × Nat × Nat) (n p : Nat) : Int × Bool × Nat × Nat := if x.1 = 0 then (0, grdn x.2 n p) else x
noncomputable def ertu (x : Int × Bool × Nat × Nat) (n p : Nat) : Int × Bool × Nat × Nat := if x.1 = 0 then (0, grup x.2 n p) else x
noncomputable def sroot (x : (Int × Bool × Nat × Nat) × (Int × Bool × Nat × Nat) × Bool) (n p : Nat) : (Int × Bool × Nat × Nat) × (Int × Bool × Nat × Nat) × Bool := (ertd x.1 n p, ertu x.2.1 n p, false)
theorem rootDf_any (s1 : Bool) (p1 : Option Addr) (k1 c1 : Nat) (q1 : Option Addr) (l1 d1 : Nat) (Bn Bp : Nat) (nn pr : Nat) (t : Bool × Nat × Nat) (w : World) (h : FNorm w (.agg #[.bool s1, .slice p1 k1 c1, .slice q1 l1 d1]) t) (hn : t.2.1 < W32 ^ 64) (hd : t.2.2 < W32 ^ 64) (h0 : 0 < t.2.2) (h2 : 2 ≤ nn) (h8 : nn ≤ 8) (hp : pr ≤ 256) (ht : TabOk w) (hBn : Box w Bn #[.int .i64 (nn : Int)]) (hB : Box w Bp #[.int .i64 (pr : Int)]) :
  Calls Tryz.prog 189 #[.agg #[.bool s1, .slice p1 k1 c1, .slice q1 l1 d1], .pointer (some ⟨Bn, 0, none⟩), .pointer (some ⟨Bp, 0, none⟩)] w fun e w' => ∃ s2 p2 k2 c2 q2 l2 d2, e = .returned (.agg #[.bool s2, .slice p2 k2 c2, .slice q2 l2 d2]) ∧ Hid (FNorm w' (.agg #[.bool s2, .slice p2 k2 c2, .slice q2 l2 d2]) (grdn t nn pr)) ∧ Below w.heap.size w w' := by
 have HD := hid (fun (W : World) (hW : Below w.heap.size w W) => fopen (t := grdn t nn pr) (FracRootDown_any (.agg #[.bool s1, .slice p1 k1 c1, .slice q1 l1 d1]) t nn pr W (h.below hW) hn hd h0 h2 h8 hp (ht.below hW)))
 have HP := hid hB
 have hl := hB.lt
 have HPn := hid hBn
 have hln := hBn.lt
 clear h hn hd h0 h2 h8 ht hB hBn
 obtain ⟨r, hr⟩ : ∃ r, r = grdn t nn pr := ⟨_, rfl⟩
 rw [← hr] at HD ⊢
 clear hr
 obtain ⟨pi, hpi⟩ : ∃ pi : Int, pi = (pr : Int) := ⟨_, rfl⟩
 rw [← hpi] at HD HP
 clear hpi hp
 obtain ⟨ni, hni⟩ : ∃ ni : Int, ni = (nn : Int) := ⟨_, rfl⟩
 rw [← hni] at HD HPn
 clear hni
 go_enter Tryz.func189, Tryz.ntmps189
 have HPx := hid (fun (W : World) (hW : Below w.heap.size w W) => HP.out.below hW)
 obtain ⟨un, _⟩ := HPn.out.cells1
 obtain ⟨u0, _⟩ := HP.out.cells1
 go_wp2_with fail
 generalize hA : World.alloc _ _ = W0
 have HV := hid (pre2_o hA nd3 nd3)
 clear hA
 refine (HD.out _ HV.out.2.2).mono ?_
 rintro e w1 ⟨s2, p2, k2, c2, q2, l2, d2, rfl, hF, hB1⟩
 have HE := hid (And.intro (HV.out.2.1.below hB1) (HV.out.2.2.trans (hB1.mono HV.out.2.2.size)))
 clear hB1
 obtain ⟨g0, g1, g2, f0, f1, f2⟩ := HE.out.1.cells3
 go_wp2_with fail
 exact rootDf_ret rfl (HE.out.1.stores [.bool s2, .slice p2 k2 c2, .slice q2 l2 d2] rfl nd3) ⟨s2, p2, k2, c2, q2, l2, d2, rfl, hid (FNorm.stores (k := 0) (l := [.bool s2, .slice p2 k2 c2, .slice q2 l2 d2]) hF.out HE.out.1 nd3), Below.stores (k := 0) (l := [.bool s2, .slice p2 k2 c2, .slice q2 l2 d2]) HE.out.2 (Nat.le_succ _)⟩
theorem enter_rootD (args : Array Value) (w : World) : (callFunc 189 args).run Tryz.prog w = .ok (.enter 189 args) w := call_enter Tryz.func189 (by kernel_rfl) rfl args w
theorem rootD_any (i1 : Int) (s1 : Bool) (p1 : Option Addr) (k1 c1 : Nat) (q1 : Option Addr) (l1 d1 : Nat) (x : Int × Bool × Nat × Nat) (nn pr : Nat) (w : World) (h : ERep w (.agg #[.int .i64 i1, .bool s1, .slice p1 k1 c1, .slice q1 l1 d1]) x) (hx : EOk 64 x) (h2 : 2 ≤ nn) (h8 : nn ≤ 8) (hp : pr ≤ 256) (ht : TabOk w) :
  Calls Tryz.prog 133 #[.agg #[.int .i64 i1, .bool s1, .slice p1 k1 c1, .slice q1 l1 d1], .int .i64 (nn : Int), .int .i64 (pr : Int)] w fun e w' => ∃ i2 s2 p2 k2 c2 q2 l2 d2, e = .returned (.agg #[.int .i64 i2, .bool s2, .slice p2 k2 c2, .slice q2 l2 d2]) ∧ Hid (ERep w' (.agg #[.int .i64 i2, .bool s2, .slice p2 k2 c2, .slice q2 l2 d2]) (ertd x nn pr)) ∧ Below w.heap.size w w' := by
 have hmf := makeFunc_run
 obtain ⟨hi, hF⟩ := h.frac
 have HC : Hid (∀ (W : World), Below w.heap.size w W → Box W (w.heap.size + 1) #[.int .i64 (nn : Int)] → Box W (w.heap.size + 1 + 1) #[.int .i64 (pr : Int)] → Calls Tryz.prog 179 #[.agg #[.int .i64 i1, .bool s1, .slice p1 k1 c1, .slice q1 l1 d1], .func (.func 189) #[] #[.pointer (some ⟨w.heap.size + 1, 0, none⟩), .pointer (some ⟨w.heap.size + 1 + 1, 0, none⟩)]] W fun e w' => ∃ i2 s2 p2 k2 c2 q2 l2 d2, e = .returned (.agg #[.int .i64 i2, .bool s2, .slice p2 k2 c2, .slice q2 l2 d2]) ∧ Hid (ERep w' (.agg #[.int .i64 i2, .bool s2, .slice p2 k2 c2, .slice q2 l2 d2]) (ertd x nn pr)) ∧ Below W.heap.size W w') := by
  refine hid fun W hW hBn hBp => ?_
  by_cases h0 : x.1 = 0
  ·rw [h0] at hi
   subst hi
   have hfr := hx.fin h0
   refine (change_fin s1 p1 k1 c1 q1 l1 d1 _ #[.pointer (some ⟨w.heap.size + 1, 0, none⟩), .pointer (some ⟨w.heap.size + 1 + 1, 0, none⟩)] (grdn x.2 nn pr) W enter_rootD (fun W' hW' => rootDf_any s1 p1 k1 c1 q1 l1 d1 (w.heap.size + 1) (w.heap.size + 1 + 1) nn pr x.2 W' ((hF.below hW).below hW') hx.bn hx.bd hfr.pos h2 h8 hp ((ht.below hW).below hW') (hBn.below hW') (hBp.below hW'))).mono ?_
   rintro e w' ⟨s2, p2, k2, c2, q2, l2, d2, rfl, hF2, hB⟩
   refine ⟨0, s2, p2, k2, c2, q2, l2, d2, rfl, hid ?_, hB⟩
   unfold ertd
   rw [if_pos h0]
   exact ERep.mk rfl hF2.out
  ·refine (change_inf i1 s1 p1 k1 c1 q1 l1 d1 _ W (by rw [hi]; exact h0)).mono ?_
   rintro e w' ⟨rfl, hB⟩
   refine ⟨i1, s1, p1, k1, c1, q1, l1, d1, rfl, hid ?_, hB⟩
   unfold ertd
   rw [if_neg h0]
   exact (h.below hW).below hB
 clear h hx h2 h8 hp ht hi hF
 obtain ⟨r, hr⟩ : ∃ r, r = ertd x nn pr := ⟨_, rfl⟩
 rw [← hr] at HC ⊢
 clear hr
 obtain ⟨pi, hpi⟩ : ∃ pi : Int, pi = (pr : Int) := ⟨_, rfl⟩
 rw [← hpi] at HC ⊢
 clear hpi
 obtain ⟨ni, hni⟩ : ∃ ni : Int, ni = (nn : Int) := ⟨_, rfl⟩
 rw [← hni] at HC ⊢
 clear hni
 go_enter Tryz.func133, Tryz.ntmps133
 go_wp2_with fail
 generalize hA : World.alloc _ _ = W0
 have HV := hid (pre4_o hA nd4 nd1 nd1 nd4)
 clear hA
 refine (HC.out _ HV.out.2.2.2.2 HV.out.2.1 HV.out.2.2.1).mono ?_
 rintro e w1 ⟨i2, s2, p2, k2, c2, q2, l2, d2, rfl, hE, hB1⟩
 have HE := hid (And.intro (HV.out.2.2.2.1.below hB1) (HV.out.2.2.2.2.trans (hB1.mono HV.out.2.2.2.2.size)))
 clear hB1
 obtain ⟨g0, g1, g2, g3, f0, f1, f2, f3⟩ := HE.out.1.cells4
 go_wp2_with fail
 exact rootD_ret rfl (HE.out.1.stores [.int .i64 i2, .bool s2, .slice p2 k2 c2, .slice q2 l2 d2] rfl nd4) ⟨i2, s2, p2, k2, c2, q2, l2, d2, rfl, hid (ERep.stores (k := 0) (l := [.int .i64 i2, .bool s2, .slice p2 k2 c2, .slice q2 l2 d2]) hE.out HE.out.1 nd4), Below.stores (k := 0) (l := [.int .i64 i2, .bool s2, .slice p2 k2 c2, .slice q2 l2 d2]) HE.out.2 (by omega)⟩
theorem rootUf_any (s1 : Bool) (p1 : Option Addr) (k1 c1 : Nat) (q1 : Option Addr) (l1 d1 : Nat) (Bn Bp : Nat) (nn pr : Nat) (t : Bool × Nat × Nat) (w : World) (h : FNorm w (.agg #[.bool s1, .slice p1 k1 c1, .slice q1 l1 d1]) t) (hn : t.2.1 < W32 ^ 64) (hd : t.2.2 < W32 ^ 64) (h0 : 0 < t.2.2) (h2 : 2 ≤ nn) (h8 : nn ≤ 8) (hp : pr ≤ 256) (ht : TabOk w) (hBn : Box w Bn #[.int .i64 (nn : Int)]) (hB : Box w Bp #[.int .i64 (pr : Int)]) :
  Calls Tryz.prog 191 #[.agg #[.bool s1, .slice p1 k1 c1, .slice q1 l1 d1], .pointer (some ⟨Bn, 0, none⟩), .pointer (some ⟨Bp, 0, none⟩)] w fun e w' => ∃ s2 p2 k2 c2 q2 l2 d2, e = .returned (.agg #[.bool s2, .slice p2 k2 c2, .slice q2 l2 d2]) ∧ Hid (FNorm w' (.agg #[.bool s2, .slice p2 k2 c2, .slice q2 l2 d2]) (grup t nn pr)) ∧ Below w.heap.size w w' := by
 have HD := hid (fun (W : World) (hW : Below w.heap.size w W) => fopen (t := grup t nn pr) (FracRootUp_any (.agg #[.bool s1, .slice p1 k1 c1, .slice q1 l1 d1]) t nn pr W (h.below hW) hn hd h0 h2 h8 hp (ht.below hW)))
 have HP := hid hB
 have hl := hB.lt
 have HPn := hid hBn
 have hln := hBn.lt
 clear h hn hd h0 h2 h8 ht hB hBn
 obtain ⟨r, hr⟩ : ∃ r, r = grup t nn pr := ⟨_, rfl⟩
 rw [← hr] at HD ⊢
 clear hr
 obtain ⟨pi, hpi⟩ : ∃ pi : Int, pi = (pr : Int) := ⟨_, rfl⟩
 rw [← hpi] at HD HP
 clear hpi hp
 obtain ⟨ni, hni⟩ : ∃ ni : Int, ni = (nn : Int) := ⟨_, rfl⟩
 rw [← hni] at HD HPn
 clear hni
 go_enter Tryz.func191, Tryz.ntmps191
 have HPx := hid (fun (W : World) (hW : Below w.heap.size w W) => HP.out.below hW)
 obtain ⟨un, _⟩ := HPn.out.cells1
 obtain ⟨u0, _⟩ := HP.out.cells1
 go_wp2_with fail
 generalize hA : World.alloc _ _ = W0
 have HV := hid (pre2_o hA nd3 nd3)
 clear hA
 refine (HD.out _ HV.out.2.2).mono ?_
 rintro e w1 ⟨s2, p2, k2, c2, q2, l2, d2, rfl, hF, hB1⟩
 have HE := hid (And.intro (HV.out.2.1.below hB1) (HV.out.2.2.trans (hB1.mono HV.out.2.2.size)))
 clear hB1
 obtain ⟨g0, g1, g2, f0, f1, f2⟩ := HE.out.1.cells3
 go_wp2_with fail
 exact rootUf_ret rfl (HE.out.1.stores [.bool s2, .slice p2 k2 c2, .slice q2 l2 d2] rfl nd3) ⟨s2, p2, k2, c2, q2, l2, d2, rfl, hid (FNorm.stores (k := 0) (l := [.bool s2, .slice p2 k2 c2, .slice q2 l2 d2]) hF.out HE.out.1 nd3), Below.stores (k := 0) (l := [.bool s2, .slice p2 k2 c2, .slice q2 l2 d2]) HE.out.2 (Nat.le_succ _)⟩
theorem enter_rootU (args : Array Value) (w : World) : (callFunc 191 args).run Tryz.prog w = .ok (.enter 191 args) w := call_enter Tryz.func191 (by kernel_rfl) rfl args w
theorem rootU_any (i1 : Int) (s1 : Bool) (p1 : Option Addr) (k1 c1 : Nat) (q1 : Option Addr) (l1 d1 : Nat) (x : Int × Bool × Nat × Nat) (nn pr : Nat) (w : World) (h : ERep w (.agg #[.int .i64 i1, .bool s1, .slice p1 k1 c1, .slice q1 l1 d1]) x) (hx : EOk 64 x) (h2 : 2 ≤ nn) (h8 : nn ≤ 8) (hp : pr ≤ 256) (ht : TabOk w) :
  Calls Tryz.prog 134 #[.agg #[.int .i64 i1, .bool s1, .slice p1 k1 c1, .slice q1 l1 d1], .int .i64 (nn : Int), .int .i64 (pr : Int)] w fun e w' => ∃ i2 s2 p2 k2 c2 q2 l2 d2, e = .returned (.agg #[.int .i64 i2, .bool s2, .slice p2 k2 c2, .slice q2 l2 d2]) ∧ Hid (ERep w' (.agg #[.int .i64 i2, .bool s2, .slice p2 k2 c2, .slice q2 l2 d2]) (ertu x nn pr)) ∧ Below w.heap.size w w' := by
 have hmf := makeFunc_run
 obtain ⟨hi, hF⟩ := h.frac
 have HC : Hid (∀ (W : World), Below w.heap.size w W → Box W (w.heap.size + 1) #[.int .i64 (nn : Int)] → Box W (w.heap.size + 1 + 1) #[.int .i64 (pr : Int)] → Calls Tryz.prog 179 #[.agg #[.int .i64 i1, .bool s1, .slice p1 k1 c1, .slice q1 l1 d1], .func (.func 191) #[] #[.pointer (some ⟨w.heap.size + 1, 0, none⟩), .pointer (some ⟨w.heap.size + 1 + 1, 0, none⟩)]] W fun e w' => ∃ i2 s2 p2 k2 c2 q2 l2 d2, e = .returned (.agg #[.int .i64 i2, .bool s2, .slice p2 k2 c2, .slice q2 l2 d2]) ∧ Hid (ERep w' (.agg #[.int .i64 i2, .bool s2, .slice p2 k2 c2, .slice q2 l2 d2]) (ertu x nn pr)) ∧ Below W.heap.size W w') := by
  refine hid fun W hW hBn hBp => ?_
  by_cases h0 : x.1 = 0
  ·rw [h0] at hi
   subst hi
   have hfr := hx.fin h0
   refine (change_fin s1 p1 k1 c1 q1 l1 d1 _ #[.pointer (some ⟨w.heap.size + 1, 0, none⟩), .pointer (some ⟨w.heap.size + 1 + 1, 0, none⟩)] (grup x.2 nn pr) W enter_rootU (fun W' hW' => rootUf_any s1 p1 k1 c1 q1 l1 d1 (w.heap.size + 1) (w.heap.size + 1 + 1) nn pr x.2 W' ((hF.below hW).below hW') hx.bn hx.bd hfr.pos h2 h8 hp ((ht.below hW).below hW') (hBn.below hW') (hBp.below hW'))).mono ?_
   rintro e w' ⟨s2, p2, k2, c2, q2, l2, d2, rfl, hF2, hB⟩
   refine ⟨0, s2, p2, k2, c2, q2, l2, d2, rfl, hid ?_, hB⟩
   unfold ertu
   rw [if_pos h0]
   exact ERep.mk rfl hF2.out
  ·refine (change_inf i1 s1 p1 k1 c1 q1 l1 d1 _ W (by rw [hi]; exact h0)).mono ?_
   rintro e w' ⟨rfl, hB⟩
   refine ⟨i1, s1, p1, k1, c1, q1, l1, d1, rfl, hid ?_, hB⟩
   unfold ertu
   rw [if_neg h0]
   exact (h.below hW).below hB
 clear h hx h2 h8 hp ht hi hF
 obtain ⟨r, hr⟩ : ∃ r, r = ertu x nn pr := ⟨_, rfl⟩
 rw [← hr] at HC ⊢
 clear hr
 obtain ⟨pi, hpi⟩ : ∃ pi : Int, pi = (pr : Int) := ⟨_, rfl⟩
 rw [← hpi] at HC ⊢
 clear hpi
 obtain ⟨ni, hni⟩ : ∃ ni : Int, ni = (nn : Int) := ⟨_, rfl⟩
 rw [← hni] at HC ⊢
 clear hni
 go_enter Tryz.func134, Tryz.ntmps134
 go_wp2_with fail
 generalize hA : World.alloc _ _ = W0
 have HV := hid (pre4_o hA nd4 nd1 nd1 nd4)
 clear hA
 refine (HC.out _ HV.out.2.2.2.2 HV.out.2.1 HV.out.2.2.1).mono ?_
 rintro e w1 ⟨i2, s2, p2, k2, c2, q2, l2, d2, rfl, hE, hB1⟩
 have HE := hid (And.intro (HV.out.2.2.2.1.below hB1) (HV.out.2.2.2.2.trans (hB1.mono HV.out.2.2.2.2.size)))
 clear hB1
 obtain ⟨g0, g1, g2, g3, f0, f1, f2, f3⟩ := HE.out.1.cells4
 go_wp2_with fail
 exact rootU_ret rfl (HE.out.1.stores [.int .i64 i2, .bool s2, .slice p2 k2 c2, .slice q2 l2 d2] rfl nd4) ⟨i2, s2, p2, k2, c2, q2, l2, d2, rfl, hid (ERep.stores (k := 0) (l := [.int .i64 i2, .bool s2, .slice p2 k2 c2, .slice q2 l2 d2]) hE.out HE.out.1 nd4), Below.stores (k := 0) (l := [.int .i64 i2, .bool s2, .slice p2 k2 c2, .slice q2 l2 d2]) HE.out.2 (by omega)⟩
theorem sroot_odd (i1 : Int) (s1 : Bool) (p1 : Option Addr) (k1 c1 : Nat) (q1 : Option Addr) (l1 d1 : Nat) (j1 : Int) (sz1 : Bool) (pz1 : Option Addr) (kz1 cz1 : Nat) (qz1 : Option Addr) (lz1 dz1 : Nat) (e1 : Bool) (n p : Int) (rl rh : Int × Bool × Nat × Nat) (r : (Int × Bool × Nat × Nat) × (Int × Bool × Nat × Nat) × Bool) (HX : Hid (r = (rl, rh, false))) (w : World)
  (HL : Hid (∀ W, Below w.heap.size w W → Calls Tryz.prog 133 #[.agg #[.int .i64 i1, .bool s1, .slice p1 k1 c1, .slice q1 l1 d1], .int .i64 n, .int .i64 p] W fun e w' => ∃ i2 s2 p2 k2 c2 q2 l2 d2, e = .returned (.agg #[.int .i64 i2, .bool s2, .slice p2 k2 c2, .slice q2 l2 d2]) ∧ Hid (ERep w' (.agg #[.int .i64 i2, .bool s2, .slice p2 k2 c2, .slice q2 l2 d2]) rl) ∧ Below W.heap.size W w'))
  (HH : Hid (∀ W, Below w.heap.size w W → Calls Tryz.prog 134 #[.agg #[.int .i64 j1, .bool sz1, .slice pz1 kz1 cz1, .slice qz1 lz1 dz1], .int .i64 n, .int .i64 p] W fun e w' => ∃ i2 s2 p2 k2 c2 q2 l2 d2, e = .returned (.agg #[.int .i64 i2, .bool s2, .slice p2 k2 c2, .slice q2 l2 d2]) ∧ Hid (ERep w' (.agg #[.int .i64 i2, .bool s2, .slice p2 k2 c2, .slice q2 l2 d2]) rh) ∧ Below W.heap.size W w')) (hn : (Int.tmod n 2 == 1) = true) :
  Calls Tryz.prog 64 #[.agg #[.int .i64 i1, .bool s1, .slice p1 k1 c1, .slice q1 l1 d1, .int .i64 j1, .bool sz1, .slice pz1 kz1 cz1, .slice qz1 lz1 dz1, .bool e1], .int .i64 n, .int .i64 p] w fun e w' => ∃ i3 s3 p3 k3 c3 q3 l3 d3 j3 sz3 pz3 kz3 cz3 qz3 lz3 dz3 e3, e = .returned (.agg #[.int .i64 i3, .bool s3, .slice p3 k3 c3, .slice q3 l3 d3, .int .i64 j3, .bool sz3, .slice pz3 kz3 cz3, .slice qz3 lz3 dz3, .bool e3]) ∧ Hid (SRep w' (.agg #[.int .i64 i3, .bool s3, .slice p3 k3 c3, .slice q3 l3 d3, .int .i64 j3, .bool sz3, .slice pz3 kz3 cz3, .slice qz3 lz3 dz3, .bool e3]) r) ∧ Below w.heap.size w w' := by
 go_enter Tryz.func64, Tryz.ntmps64
 go_upto_region 1 with fail
 generalize hA : World.alloc _ _ = W0
 have HV := hid (pre2_o hA nd9 nd9)
 clear hA
 obtain ⟨m0, m1, m2, m3, m4, m5, m6, m7, m8, _⟩ := HV.out.1.cells9
 go_wp2_with fail
 refine (unless_ok 5 _).mono ?_
 rintro e w1 ⟨rfl, rfl⟩
 clear m0 m1 m2 m3 m4 m5 m6 m7 m8
 go_upto_region 2 with fail
 have HQ := hid (QQ.i1 (cs := [.int .i64 i1, .bool s1, .slice p1 k1 c1, .slice q1 l1 d1, .int .i64 j1, .bool sz1, .slice pz1 kz1 cz1, .slice qz1 lz1 dz1, .bool e1]) HV.out.1 HV.out.2.2)
 have HS := hid (fun (w' : World) (hb : QQ w [(w.heap.size, [.int .i64 i1, .bool s1, .slice p1 k1 c1, .slice q1 l1 d1, .int .i64 j1, .bool sz1, .slice pz1 kz1 cz1, .slice qz1 lz1 dz1, .bool e1])] w') => hb.s_9)
 have HN : Hid (Apart [(w.heap.size, [.int .i64 i1, .bool s1, .slice p1 k1 c1, .slice q1 l1 d1, .int .i64 j1, .bool sz1, .slice pz1 kz1 cz1, .slice qz1 lz1 dz1, .bool e1])] (w.heap.size + 1)) := hid (ne1 (by omega))
 have HI : Hid (w.heap.size ≤ w.heap.size + 1) := hid (by omega)
 go_region_held3 (fun w' => w'.cell? ⟨w.heap.size, 0, none⟩ = some (.int .i64 i1) ∧ w'.cell? ⟨w.heap.size, 1, none⟩ = some (.bool s1) ∧ w'.cell? ⟨w.heap.size, 2, none⟩ = some (.slice p1 k1 c1) ∧ w'.cell? ⟨w.heap.size, 3, none⟩ = some (.slice q1 l1 d1) ∧ w'.cell? ⟨w.heap.size, 4, none⟩ = some (.int .i64 j1) ∧ w'.cell? ⟨w.heap.size, 5, none⟩ = some (.bool sz1) ∧ w'.cell? ⟨w.heap.size, 6, none⟩ = some (.slice pz1 kz1 cz1) ∧ w'.cell? ⟨w.heap.size, 7, none⟩ = some (.slice qz1 lz1 dz1) ∧ w'.cell? ⟨w.heap.size, 8, none⟩ = some (.bool e1) ∧ Hid (QQ w [(w.heap.size, [.int .i64 i1, .bool s1, .slice p1 k1 c1, .slice q1 l1 d1, .int .i64 j1, .bool sz1, .slice pz1 kz1 cz1, .slice qz1 lz1 dz1, .bool e1])] w'))
  (first | (refine HS.out _ ?_; first | (with_reducible exact HQ.out.drew) | (with_reducible assumption) | (with_reducible refine QQ.st9 ?_ HN.out HI.out; assumption)))
  (first
   | (go_at_call 133; refine (HL.out _ HQ.out.drew.bel).mono ?_; rintro e wa ⟨i4, s4, p4, k4, c4, q4, l4, d4, rfl, hE1, hB1⟩; have hQ1 := HQ.out.drew.call hB1; have hV1 := (HV.out.2.1.drew).below hB1)
   | (go_at_call 134; refine (HH.out _ hQ1.bel).mono ?_; rintro e wb ⟨i5, s5, p5, k5, c5, q5, l5, d5, rfl, hE2, hB2⟩; have hQ2 := hQ1.call hB2; have hV2 := hV1.below hB2; obtain ⟨g0, g1, g2, g3, g4, g5, g6, g7, g8, f0, f1, f2, f3, f4, f5, f6, f7, f8⟩ := hV2.cells9))
 rename_i hHeld
 clear hHeld
 have HE := hid (And.intro hV2 (And.intro (hE1.out.below hB2) (And.intro hE2.out hQ2.bel)))
 clear hQ1 hQ2 hV1 hV2 hB1 hB2 hE1 hE2
 go_wp2_with fail
 exact sroot_ret rfl (HE.out.1.stores [.int .i64 i4, .bool s4, .slice p4 k4 c4, .slice q4 l4 d4, .int .i64 i5, .bool s5, .slice p5 k5 c5, .slice q5 l5 d5, .bool false] rfl nd9) ⟨_, _, _, _, _, _, _, _, _, _, _, _, _, _, _, _, _, rfl, hid ⟨_, _, _, _, _, _, _, _, _, _, _, _, _, _, _, _, _, rfl, by rw [HX.out]; exact ERep.stores (k := 0) (l := [.int .i64 i4, .bool s4, .slice p4 k4 c4, .slice q4 l4 d4, .int .i64 i5, .bool s5, .slice p5 k5 c5, .slice q5 l5 d5, .bool false]) HE.out.2.1 HE.out.1 nd9, by rw [HX.out]; exact ERep.stores (k := 0) (l := [.int .i64 i4, .bool s4, .slice p4 k4 c4, .slice q4 l4 d4, .int .i64 i5, .bool s5, .slice p5 k5 c5, .slice q5 l5 d5, .bool false]) HE.out.2.2.1 HE.out.1 nd9, by rw [HX.out]⟩, Below.stores (k := 0) (l := [.int .i64 i4, .bool s4, .slice p4 k4 c4, .slice q4 l4 d4, .int .i64 i5, .bool s5, .slice p5 k5 c5, .slice q5 l5 d5, .bool false]) HE.out.2.2.2 HI.out⟩
theorem sroot_even (i1 : Int) (s1 : Bool) (p1 : Option Addr) (k1 c1 : Nat) (q1 : Option Addr) (l1 d1 : Nat) (j1 : Int) (sz1 : Bool) (pz1 : Option Addr) (kz1 cz1 : Nat) (qz1 : Option Addr) (lz1 dz1 : Nat) (e1 : Bool) (n p : Int) (rl rh : Int × Bool × Nat × Nat) (r : (Int × Bool × Nat × Nat) × (Int × Bool × Nat × Nat) × Bool) (HX : Hid (r = (rl, rh, false))) (w : World)
  (HL : Hid (∀ W, Below w.heap.size w W → Calls Tryz.prog 133 #[.agg #[.int .i64 i1, .bool s1, .slice p1 k1 c1, .slice q1 l1 d1], .int .i64 n, .int .i64 p] W fun e w' => ∃ i2 s2 p2 k2 c2 q2 l2 d2, e = .returned (.agg #[.int .i64 i2, .bool s2, .slice p2 k2 c2, .slice q2 l2 d2]) ∧ Hid (ERep w' (.agg #[.int .i64 i2, .bool s2, .slice p2 k2 c2, .slice q2 l2 d2]) rl) ∧ Below W.heap.size W w'))
  (HH : Hid (∀ W, Below w.heap.size w W → Calls Tryz.prog 134 #[.agg #[.int .i64 j1, .bool sz1, .slice pz1 kz1 cz1, .slice qz1 lz1 dz1], .int .i64 n, .int .i64 p] W fun e w' => ∃ i2 s2 p2 k2 c2 q2 l2 d2, e = .returned (.agg #[.int .i64 i2, .bool s2, .slice p2 k2 c2, .slice q2 l2 d2]) ∧ Hid (ERep w' (.agg #[.int .i64 i2, .bool s2, .slice p2 k2 c2, .slice q2 l2 d2]) rh) ∧ Below W.heap.size W w'))
  (g : Int) (HG : Hid (∀ W, Below w.heap.size w W → Calls Tryz.prog 108 #[.agg #[.int .i64 i1, .bool s1, .slice p1 k1 c1, .slice q1 l1 d1]] W fun e w' => e = .returned (.int .i64 g) ∧ Below W.heap.size W w')) (hn : (Int.tmod n 2 == 1) = false) (hg : decide (0 ≤ g) = true) :
  Calls Tryz.prog 64 #[.agg #[.int .i64 i1, .bool s1, .slice p1 k1 c1, .slice q1 l1 d1, .int .i64 j1, .bool sz1, .slice pz1 kz1 cz1, .slice qz1 lz1 dz1, .bool e1], .int .i64 n, .int .i64 p] w fun e w' => ∃ i3 s3 p3 k3 c3 q3 l3 d3 j3 sz3 pz3 kz3 cz3 qz3 lz3 dz3 e3, e = .returned (.agg #[.int .i64 i3, .bool s3, .slice p3 k3 c3, .slice q3 l3 d3, .int .i64 j3, .bool sz3, .slice pz3 kz3 cz3, .slice qz3 lz3 dz3, .bool e3]) ∧ Hid (SRep w' (.agg #[.int .i64 i3, .bool s3, .slice p3 k3 c3, .slice q3 l3 d3, .int .i64 j3, .bool sz3, .slice pz3 kz3 cz3, .slice qz3 lz3 dz3, .bool e3]) r) ∧ Below w.heap.size w w' := by
 go_enter Tryz.func64, Tryz.ntmps64
 go_upto_region 1 with fail
 generalize hA : World.alloc _ _ = W0
 have HV := hid (pre2_o hA nd9 nd9)
 clear hA
 obtain ⟨m0, m1, m2, m3, m4, m5, m6, m7, m8, _⟩ := HV.out.1.cells9
 go_wp2_with fail
 refine (HG.out _ HV.out.2.2).mono ?_
 rintro e w2 ⟨rfl, hB2⟩
 replace HV := hid (And.intro (HV.out.1.below hB2) (And.intro (HV.out.2.1.below hB2) (HV.out.2.2.trans (hB2.mono HV.out.2.2.size))))
 clear hB2 m0 m1 m2 m3 m4 m5 m6 m7 m8
 go_wp2_with fail
 refine (unless_ok 5 _).mono ?_
 rintro e w1 ⟨rfl, rfl⟩
 go_upto_region 2 with fail
 have HQ := hid (QQ.i1 (cs := [.int .i64 i1, .bool s1, .slice p1 k1 c1, .slice q1 l1 d1, .int .i64 j1, .bool sz1, .slice pz1 kz1 cz1, .slice qz1 lz1 dz1, .bool e1]) HV.out.1 HV.out.2.2)
 have HS := hid (fun (w' : World) (hb : QQ w [(w.heap.size, [.int .i64 i1, .bool s1, .slice p1 k1 c1, .slice q1 l1 d1, .int .i64 j1, .bool sz1, .slice pz1 kz1 cz1, .slice qz1 lz1 dz1, .bool e1])] w') => hb.s_9)
 have HN : Hid (Apart [(w.heap.size, [.int .i64 i1, .bool s1, .slice p1 k1 c1, .slice q1 l1 d1, .int .i64 j1, .bool sz1, .slice pz1 kz1 cz1, .slice qz1 lz1 dz1, .bool e1])] (w.heap.size + 1)) := hid (ne1 (by omega))
 have HI : Hid (w.heap.size ≤ w.heap.size + 1) := hid (by omega)
 go_region_held3 (fun w' => w'.cell? ⟨w.heap.size, 0, none⟩ = some (.int .i64 i1) ∧ w'.cell? ⟨w.heap.size, 1, none⟩ = some (.bool s1) ∧ w'.cell? ⟨w.heap.size, 2, none⟩ = some (.slice p1 k1 c1) ∧ w'.cell? ⟨w.heap.size, 3, none⟩ = some (.slice q1 l1 d1) ∧ w'.cell? ⟨w.heap.size, 4, none⟩ = some (.int .i64 j1) ∧ w'.cell? ⟨w.heap.size, 5, none⟩ = some (.bool sz1) ∧ w'.cell? ⟨w.heap.size, 6, none⟩ = some (.slice pz1 kz1 cz1) ∧ w'.cell? ⟨w.heap.size, 7, none⟩ = some (.slice qz1 lz1 dz1) ∧ w'.cell? ⟨w.heap.size, 8, none⟩ = some (.bool e1) ∧ Hid (QQ w [(w.heap.size, [.int .i64 i1, .bool s1, .slice p1 k1 c1, .slice q1 l1 d1, .int .i64 j1, .bool sz1, .slice pz1 kz1 cz1, .slice qz1 lz1 dz1, .bool e1])] w'))
  (first | (refine HS.out _ ?_; first | (with_reducible exact HQ.out.drew) | (with_reducible assumption) | (with_reducible refine QQ.st9 ?_ HN.out HI.out; assumption)))
  (first
   | (go_at_call 133; refine (HL.out _ HQ.out.drew.bel).mono ?_; rintro e wa ⟨i4, s4, p4, k4, c4, q4, l4, d4, rfl, hE1, hB1⟩; have hQ1 := HQ.out.drew.call hB1; have hV1 := (HV.out.2.1.drew).below hB1)
   | (go_at_call 134; refine (HH.out _ hQ1.bel).mono ?_; rintro e wb ⟨i5, s5, p5, k5, c5, q5, l5, d5, rfl, hE2, hB2⟩; have hQ2 := hQ1.call hB2; have hV2 := hV1.below hB2; obtain ⟨g0, g1, g2, g3, g4, g5, g6, g7, g8, f0, f1, f2, f3, f4, f5, f6, f7, f8⟩ := hV2.cells9))
 rename_i hHeld
 clear hHeld
 have HE := hid (And.intro hV2 (And.intro (hE1.out.below hB2) (And.intro hE2.out hQ2.bel)))
 clear hQ1 hQ2 hV1 hV2 hB1 hB2 hE1 hE2
 go_wp2_with fail
 exact sroot_ret rfl (HE.out.1.stores [.int .i64 i4, .bool s4, .slice p4 k4 c4, .slice q4 l4 d4, .int .i64 i5, .bool s5, .slice p5 k5 c5, .slice q5 l5 d5, .bool false] rfl nd9) ⟨_, _, _, _, _, _, _, _, _, _, _, _, _, _, _, _, _, rfl, hid ⟨_, _, _, _, _, _, _, _, _, _, _, _, _, _, _, _, _, rfl, by rw [HX.out]; exact ERep.stores (k := 0) (l := [.int .i64 i4, .bool s4, .slice p4 k4 c4, .slice q4 l4 d4, .int .i64 i5, .bool s5, .slice p5 k5 c5, .slice q5 l5 d5, .bool false]) HE.out.2.1 HE.out.1 nd9, by rw [HX.out]; exact ERep.stores (k := 0) (l := [.int .i64 i4, .bool s4, .slice p4 k4 c4, .slice q4 l4 d4, .int .i64 i5, .bool s5, .slice p5 k5 c5, .slice q5 l5 d5, .bool false]) HE.out.2.2.1 HE.out.1 nd9, by rw [HX.out]⟩, Below.stores (k := 0) (l := [.int .i64 i4, .bool s4, .slice p4 k4 c4, .slice q4 l4 d4, .int .i64 i5, .bool s5, .slice p5 k5 c5, .slice q5 l5 d5, .bool false]) HE.out.2.2.2 HI.out⟩
theorem sroot_err (i1 : Int) (s1 : Bool) (p1 : Option Addr) (k1 c1 : Nat) (q1 : Option Addr) (l1 d1 : Nat) (j1 : Int) (sz1 : Bool) (pz1 : Option Addr) (kz1 cz1 : Nat) (qz1 : Option Addr) (lz1 dz1 : Nat) (e1 : Bool) (n p : Int) (w : World)
  (g : Int) (HG : Hid (∀ W, Below w.heap.size w W → Calls Tryz.prog 108 #[.agg #[.int .i64 i1, .bool s1, .slice p1 k1 c1, .slice q1 l1 d1]] W fun e w' => e = .returned (.int .i64 g) ∧ Below W.heap.size W w')) (hn : (Int.tmod n 2 == 1) = false) (hg : decide (0 ≤ g) = false) :
  Calls Tryz.prog 64 #[.agg #[.int .i64 i1, .bool s1, .slice p1 k1 c1, .slice q1 l1 d1, .int .i64 j1, .bool sz1, .slice pz1 kz1 cz1, .slice qz1 lz1 dz1, .bool e1], .int .i64 n, .int .i64 p] w fun e w' => e = pan 5 ∧ Below w.heap.size w w' := by
 go_enter Tryz.func64, Tryz.ntmps64
 go_upto_region 1 with fail
 generalize hA : World.alloc _ _ = W0
 have HV := hid (pre2_o hA nd9 nd9)
 clear hA
 obtain ⟨m0, m1, m2, m3, m4, m5, m6, m7, m8, _⟩ := HV.out.1.cells9
 go_wp2_with fail
 refine (HG.out _ HV.out.2.2).mono ?_
 rintro e w2 ⟨rfl, hB2⟩
 replace HV := hid (And.intro (HV.out.1.below hB2) (And.intro (HV.out.2.1.below hB2) (HV.out.2.2.trans (hB2.mono HV.out.2.2.size))))
 clear hB2 m0 m1 m2 m3 m4 m5 m6 m7 m8
 go_wp2_with fail
 refine (unless_no 5 _).mono ?_
 rintro e w1 ⟨rfl, rfl⟩
 exact ⟨rfl, rfl, HV.out.2.2⟩
def rdom (x : (Int × Bool × Nat × Nat) × (Int × Bool × Nat × Nat) × Bool) (n : Nat) : Bool := decide (n % 2 = 0) && decide (esgn x.1 < 0)
theorem tmod_odd (n : Nat) : (Int.tmod (n : Int) 2 == 1) = decide (n % 2 = 1) := by
 have h : Int.tmod (n : Int) 2 = ((n % 2 : Nat) : Int) := by rw [Int.tmod_eq_emod_of_nonneg (by omega)]; omega
 rw [h]
 have : n % 2 = 0 ∨ n % 2 = 1 := by omega
 rcases this with h | h <;> rw [h] <;> rfl
theorem sroot_any (i1 : Int) (s1 : Bool) (p1 : Option Addr) (k1 c1 : Nat) (q1 : Option Addr) (l1 d1 : Nat) (j1 : Int) (sz1 : Bool) (pz1 : Option Addr) (kz1 cz1 : Nat) (qz1 : Option Addr) (lz1 dz1 : Nat) (e1 : Bool) (nn pr : Nat) (x : (Int × Bool × Nat × Nat) × (Int × Bool × Nat × Nat) × Bool) (w : World) (h : SRep w (.agg #[.int .i64 i1, .bool s1, .slice p1 k1 c1, .slice q1 l1 d1, .int .i64 j1, .bool sz1, .slice pz1 kz1 cz1, .slice qz1 lz1 dz1, .bool e1]) x) (hx : EOk 64 x.1 ∧ EOk 64 x.2.1) (h2 : 2 ≤ nn) (h8 : nn ≤ 8) (hp : pr ≤ 256) (ht : TabOk w) :
  (rdom x nn = false → Calls Tryz.prog 64 #[.agg #[.int .i64 i1, .bool s1, .slice p1 k1 c1, .slice q1 l1 d1, .int .i64 j1, .bool sz1, .slice pz1 kz1 cz1, .slice qz1 lz1 dz1, .bool e1], .int .i64 (nn : Int), .int .i64 (pr : Int)] w fun e w' => ∃ i3 s3 p3 k3 c3 q3 l3 d3 j3 sz3 pz3 kz3 cz3 qz3 lz3 dz3 e3, e = .returned (.agg #[.int .i64 i3, .bool s3, .slice p3 k3 c3, .slice q3 l3 d3, .int .i64 j3, .bool sz3, .slice pz3 kz3 cz3, .slice qz3 lz3 dz3, .bool e3]) ∧ Hid (SRep w' (.agg #[.int .i64 i3, .bool s3, .slice p3 k3 c3, .slice q3 l3 d3, .int .i64 j3, .bool sz3, .slice pz3 kz3 cz3, .slice qz3 lz3 dz3, .bool e3]) (sroot x nn pr)) ∧ Below w.heap.size w w') ∧
  (rdom x nn = true → Calls Tryz.prog 64 #[.agg #[.int .i64 i1, .bool s1, .slice p1 k1 c1, .slice q1 l1 d1, .int .i64 j1, .bool sz1, .slice pz1 kz1 cz1, .slice qz1 lz1 dz1, .bool e1], .int .i64 (nn : Int), .int .i64 (pr : Int)] w fun e w' => e = pan 5 ∧ Below w.heap.size w w') := by
 have h1 := h.ends
 have HL := hid (fun (W : World) (hW : Below w.heap.size w W) => rootD_any i1 s1 p1 k1 c1 q1 l1 d1 x.1 nn pr W (h1.1.below hW) hx.1 h2 h8 hp (ht.below hW))
 have HH := hid (fun (W : World) (hW : Below w.heap.size w W) => rootU_any j1 sz1 pz1 kz1 cz1 qz1 lz1 dz1 x.2.1 nn pr W (h1.2.1.below hW) hx.2 h2 h8 hp (ht.below hW))
 have HG := hid (fun (W : World) (hW : Below w.heap.size w W) => esign_any i1 s1 p1 k1 c1 q1 l1 d1 x.1 W (h1.1.below hW))
 have e2 := tmod_odd nn
 unfold rdom
 by_cases ho : nn % 2 = 1
 ·rw [decide_eq_true ho] at e2
  rw [decide_eq_false (show ¬ nn % 2 = 0 by omega)]
  exact ⟨fun _ => sroot_odd i1 s1 p1 k1 c1 q1 l1 d1 j1 sz1 pz1 kz1 cz1 qz1 lz1 dz1 e1 _ _ _ _ _ (hid rfl) w HL HH e2, fun h => absurd h (by simp)⟩
 ·rw [decide_eq_false ho] at e2
  rw [decide_eq_true (show nn % 2 = 0 by omega), Bool.true_and]
  constructor
  ·intro hg
   have hg := of_decide_eq_false hg
   exact sroot_even i1 s1 p1 k1 c1 q1 l1 d1 j1 sz1 pz1 kz1 cz1 qz1 lz1 dz1 e1 _ _ _ _ _ (hid rfl) w HL HH _ HG e2 (decide_eq_true (Int.not_lt.1 hg))
  ·intro hg
   have hg := of_decide_eq_true hg
   exact sroot_err i1 s1 p1 k1 c1 q1 l1 d1 j1 sz1 pz1 kz1 cz1 qz1 lz1 dz1 e1 _ _ w _ HG e2 (decide_eq_false (Int.not_le.2 hg))
theorem Root1_ok (i1 : Int) (s1 : Bool) (p1 : Option Addr) (k1 c1 : Nat) (q1 : Option Addr) (l1 d1 : Nat) (j1 : Int) (sz1 : Bool) (pz1 : Option Addr) (kz1 cz1 : Nat) (qz1 : Option Addr) (lz1 dz1 : Nat) (e1 : Bool) (Bn Bp : Nat) (n p : Int) (r : (Int × Bool × Nat × Nat) × (Int × Bool × Nat × Nat) × Bool) (w : World) (hBn : Box w Bn #[.int .i64 n]) (hB : Box w Bp #[.int .i64 p])
  (HR : Hid (∀ W, Below w.heap.size w W → Calls Tryz.prog 64 #[.agg #[.int .i64 i1, .bool s1, .slice p1 k1 c1, .slice q1 l1 d1, .int .i64 j1, .bool sz1, .slice pz1 kz1 cz1, .slice qz1 lz1 dz1, .bool e1], .int .i64 n, .int .i64 p] W fun e w' => ∃ i3 s3 p3 k3 c3 q3 l3 d3 j3 sz3 pz3 kz3 cz3 qz3 lz3 dz3 e3, e = .returned (.agg #[.int .i64 i3, .bool s3, .slice p3 k3 c3, .slice q3 l3 d3, .int .i64 j3, .bool sz3, .slice pz3 kz3 cz3, .slice qz3 lz3 dz3, .bool e3]) ∧ Hid (SRep w' (.agg #[.int .i64 i3, .bool s3, .slice p3 k3 c3, .slice q3 l3 d3, .int .i64 j3, .bool sz3, .slice pz3 kz3 cz3, .slice qz3 lz3 dz3, .bool e3]) r) ∧ Below W.heap.size W w')) :
  Calls Tryz.prog 63 #[.agg #[.int .i64 i1, .bool s1, .slice p1 k1 c1, .slice q1 l1 d1, .int .i64 j1, .bool sz1, .slice pz1 kz1 cz1, .slice qz1 lz1 dz1, .bool e1], .pointer (some ⟨Bn, 0, none⟩), .pointer (some ⟨Bp, 0, none⟩)] w fun e w' => ∃ i3 s3 p3 k3 c3 q3 l3 d3 j3 sz3 pz3 kz3 cz3 qz3 lz3 dz3 e3, e = .returned (.agg #[.int .i64 i3, .bool s3, .slice p3 k3 c3, .slice q3 l3 d3, .int .i64 j3, .bool sz3, .slice pz3 kz3 cz3, .slice qz3 lz3 dz3, .bool e3]) ∧ Hid (SRep w' (.agg #[.int .i64 i3, .bool s3, .slice p3 k3 c3, .slice q3 l3 d3, .int .i64 j3, .bool sz3, .slice pz3 kz3 cz3, .slice qz3 lz3 dz3, .bool e3]) r) ∧ Below w.heap.size w w' := by
 have HP := hid hB
 have hlt := hB.lt
 have HPn := hid hBn
 have hltn := hBn.lt
 clear hB hBn
 go_enter Tryz.func63, Tryz.ntmps63
 go_upto_region 1 with fail
 generalize hA : World.alloc _ _ = W0
 have HV := hid (pre2_o hA nd9 nd9)
 clear hA
 obtain ⟨t0, _⟩ := (HP.out.below HV.out.2.2).cells1
 obtain ⟨t1, _⟩ := (HPn.out.below HV.out.2.2).cells1
 obtain ⟨m0, m1, m2, m3, m4, m5, m6, m7, m8, _⟩ := HV.out.1.cells9
 go_wp2_with fail
 refine (HR.out _ HV.out.2.2).mono ?_
 rintro e w3 ⟨i3, s3, p3, k3, c3, q3, l3, d3, j3, sz3, pz3, kz3, cz3, qz3, lz3, dz3, e3, rfl, hS, hB3⟩
 clear m0 m1 m2 m3 m4 m5 m6 m7 m8 t0 t1
 have HE3 := hid (And.intro (HV.out.2.1.below hB3) (HV.out.2.2.trans (hB3.mono HV.out.2.2.size)))
 clear hB3
 obtain ⟨g0, g1, g2, g3, g4, g5, g6, g7, g8, n0, n1, n2, n3, n4, n5, n6, n7, n8⟩ := HE3.out.1.cells9
 go_wp2_with fail
 exact Root1_ret rfl (HE3.out.1.stores [.int .i64 i3, .bool s3, .slice p3 k3 c3, .slice q3 l3 d3, .int .i64 j3, .bool sz3, .slice pz3 kz3 cz3, .slice qz3 lz3 dz3, .bool e3] rfl nd9) ⟨i3, s3, p3, k3, c3, q3, l3, d3, j3, sz3, pz3, kz3, cz3, qz3, lz3, dz3, e3, rfl, hid (SRep.stores (k := 0) (l := [.int .i64 i3, .bool s3, .slice p3 k3 c3, .slice q3 l3 d3, .int .i64 j3, .bool sz3, .slice pz3 kz3 cz3, .slice qz3 lz3 dz3, .bool e3]) hS.out HE3.out.1 nd9), Below.stores (k := 0) (l := [.int .i64 i3, .bool s3, .slice p3 k3 c3, .slice q3 l3 d3, .int .i64 j3, .bool sz3, .slice pz3 kz3 cz3, .slice qz3 lz3 dz3, .bool e3]) HE3.out.2 (by omega)⟩
theorem Root1_err (i1 : Int) (s1 : Bool) (p1 : Option Addr) (k1 c1 : Nat) (q1 : Option Addr) (l1 d1 : Nat) (j1 : Int) (sz1 : Bool) (pz1 : Option Addr) (kz1 cz1 : Nat) (qz1 : Option Addr) (lz1 dz1 : Nat) (e1 : Bool) (Bn Bp : Nat) (n p : Int) (c : Int) (w : World) (hBn : Box w Bn #[.int .i64 n]) (hB : Box w Bp #[.int .i64 p])
  (HR : Hid (∀ W, Below w.heap.size w W → Calls Tryz.prog 64 #[.agg #[.int .i64 i1, .bool s1, .slice p1 k1 c1, .slice q1 l1 d1, .int .i64 j1, .bool sz1, .slice pz1 kz1 cz1, .slice qz1 lz1 dz1, .bool e1], .int .i64 n, .int .i64 p] W fun e w' => e = pan c ∧ Below W.heap.size W w')) :
  Calls Tryz.prog 63 #[.agg #[.int .i64 i1, .bool s1, .slice p1 k1 c1, .slice q1 l1 d1, .int .i64 j1, .bool sz1, .slice pz1 kz1 cz1, .slice qz1 lz1 dz1, .bool e1], .pointer (some ⟨Bn, 0, none⟩), .pointer (some ⟨Bp, 0, none⟩)] w fun e w' => e = pan c ∧ Below w.heap.size w w' := by
 have HP := hid hB
 have hlt := hB.lt
 have HPn := hid hBn
 have hltn := hBn.lt
 clear hB hBn
 go_enter Tryz.func63, Tryz.ntmps63
 go_upto_region 1 with fail
 generalize hA : World.alloc _ _ = W0
 have HV := hid (pre2_o hA nd9 nd9)
 clear hA
 obtain ⟨t0, _⟩ := (HP.out.below HV.out.2.2).cells1
 obtain ⟨t1, _⟩ := (HPn.out.below HV.out.2.2).cells1
 obtain ⟨m0, m1, m2, m3, m4, m5, m6, m7, m8, _⟩ := HV.out.1.cells9
 go_wp2_with fail
 refine (HR.out _ HV.out.2.2).mono ?_
 rintro e w3 ⟨rfl, hB3⟩
 exact ⟨rfl, rfl, HV.out.2.2.trans (hB3.mono HV.out.2.2.size)⟩
theorem enter_Root1 (args : Array Value) (w : World) : (callFunc 63 args).run Tryz.prog w = .ok (.enter 63 args) w := call_enter Tryz.func63 (by kernel_rfl) rfl args w
def rvalid (n p : Int) : Bool := prec p && decide (2 ≤ n) && decide (n ≤ 8)
noncomputable def srt (n p : Int) (x : (Int × Bool × Nat × Nat) × (Int × Bool × Nat × Nat) × Bool) : (Int × Bool × Nat × Nat) × (Int × Bool × Nat × Nat) × Bool := sroot x n.toNat p.toNat
def kon (v : Bool) (k : (Int × Bool × Nat × Nat) × (Int × Bool × Nat × Nat) × Bool → Bool) (a : (Bool × Nat × Nat) × (Bool × Nat × Nat) × Bool × Bool) : Bool := !ilarge a && v && !(srd a).2.2 && k (srd a)
def kcode (v : Bool) (k : (Int × Bool × Nat × Nat) × (Int × Bool × Nat × Nat) × Bool → Bool) (c : Int) (f : (Int × Bool × Nat × Nat) × (Int × Bool × Nat × Nat) × Bool → (Int × Bool × Nat × Nat) × (Int × Bool × Nat × Nat) × Bool) (a : (Bool × Nat × Nat) × (Bool × Nat × Nat) × Bool × Bool) : Int := if kon v k a then c else ocode v f a
def kval (v : Bool) (k : (Int × Bool × Nat × Nat) × (Int × Bool × Nat × Nat) × Bool → Bool) (f : (Int × Bool × Nat × Nat) × (Int × Bool × Nat × Nat) × Bool → (Int × Bool × Nat × Nat) × (Int × Bool × Nat × Nat) × Bool) (a : (Bool × Nat × Nat) × (Bool × Nat × Nat) × Bool × Bool) : (Bool × Nat × Nat) × (Bool × Nat × Nat) × Bool × Bool := if kon v k a then gzero else oval v f a
theorem one_k (s1 : Bool) (p1 : Option Addr) (k1 c1 : Nat) (q1 : Option Addr) (l1 d1 : Nat) (sz1 : Bool) (pz1 : Option Addr) (kz1 cz1 : Nat) (qz1 : Option Addr) (lz1 dz1 : Nat) (x1 : Bool) (y1 : Bool) (v : Bool) (g : FuncId) (cap : Array Value) (k : (Int × Bool × Nat × Nat) × (Int × Bool × Nat × Nat) × Bool → Bool) (c : Int) (f : (Int × Bool × Nat × Nat) × (Int × Bool × Nat × Nat) × Bool → (Int × Bool × Nat × Nat) × (Int × Bool × Nat × Nat) × Bool) (a b : Bool × Nat × Nat) (w : World) (ha : NRep w (.agg #[.bool s1, .slice p1 k1 c1, .slice q1 l1 d1]) a) (hb : NRep w (.agg #[.bool sz1, .slice pz1 kz1 cz1, .slice qz1 lz1 dz1]) b) (ht : TabOk w)
  (hfn : ∀ args W, (callFunc g args).run Tryz.prog W = .ok (.enter g args) W)
  (hr : v = true → large a.2.1 a.2.2 = false → large b.2.1 b.2.2 = false → (srd (a, b, x1, y1)).2.2 = false → k (srd (a, b, x1, y1)) = false → (EOk 100000 (f (srd (a, b, x1, y1))).1 ∧ EOk 100000 (f (srd (a, b, x1, y1))).2.1) ∧ (f (srd (a, b, x1, y1))).2.2 = false)
  (hop : v = true → large a.2.1 a.2.2 = false → large b.2.1 b.2.2 = false → (srd (a, b, x1, y1)).2.2 = false → k (srd (a, b, x1, y1)) = false → ∀ W (i1 : Int) (s1 : Bool) (p1 : Option Addr) (k1 c1 : Nat) (q1 : Option Addr) (l1 d1 : Nat) (j1 : Int) (sz1 : Bool) (pz1 : Option Addr) (kz1 cz1 : Nat) (qz1 : Option Addr) (lz1 dz1 : Nat) (e1 : Bool), Below w.heap.size w W → SRep W (.agg #[.int .i64 i1, .bool s1, .slice p1 k1 c1, .slice q1 l1 d1, .int .i64 j1, .bool sz1, .slice pz1 kz1 cz1, .slice qz1 lz1 dz1, .bool e1]) (srd (a, b, x1, y1)) → Calls Tryz.prog g (#[.agg #[.int .i64 i1, .bool s1, .slice p1 k1 c1, .slice q1 l1 d1, .int .i64 j1, .bool sz1, .slice pz1 kz1 cz1, .slice qz1 lz1 dz1, .bool e1]] ++ cap) W fun e w' => ∃ i3 s3 p3 k3 c3 q3 l3 d3 j3 sz3 pz3 kz3 cz3 qz3 lz3 dz3 e3, e = .returned (.agg #[.int .i64 i3, .bool s3, .slice p3 k3 c3, .slice q3 l3 d3, .int .i64 j3, .bool sz3, .slice pz3 kz3 cz3, .slice qz3 lz3 dz3, .bool e3]) ∧ Hid (SRep w' (.agg #[.int .i64 i3, .bool s3, .slice p3 k3 c3, .slice q3 l3 d3, .int .i64 j3, .bool sz3, .slice pz3 kz3 cz3, .slice qz3 lz3 dz3, .bool e3]) (f (srd (a, b, x1, y1)))) ∧ Below W.heap.size W w')
  (hop2 : v = true → large a.2.1 a.2.2 = false → large b.2.1 b.2.2 = false → (srd (a, b, x1, y1)).2.2 = false → k (srd (a, b, x1, y1)) = true → ∀ W (i1 : Int) (s1 : Bool) (p1 : Option Addr) (k1 c1 : Nat) (q1 : Option Addr) (l1 d1 : Nat) (j1 : Int) (sz1 : Bool) (pz1 : Option Addr) (kz1 cz1 : Nat) (qz1 : Option Addr) (lz1 dz1 : Nat) (e1 : Bool), Below w.heap.size w W → SRep W (.agg #[.int .i64 i1, .bool s1, .slice p1 k1 c1, .slice q1 l1 d1, .int .i64 j1, .bool sz1, .slice pz1 kz1 cz1, .slice qz1 lz1 dz1, .bool e1]) (srd (a, b, x1, y1)) → Calls Tryz.prog g (#[.agg #[.int .i64 i1, .bool s1, .slice p1 k1 c1, .slice q1 l1 d1, .int .i64 j1, .bool sz1, .slice pz1 kz1 cz1, .slice qz1 lz1 dz1, .bool e1]] ++ cap) W fun e w' => e = pan c ∧ Below W.heap.size W w') :
  Calls Tryz.prog 58 #[.agg #[.bool s1, .slice p1 k1 c1, .slice q1 l1 d1, .bool sz1, .slice pz1 kz1 cz1, .slice qz1 lz1 dz1, .bool x1, .bool y1], .bool v, .func (.func g) #[] cap] w fun e w' => ∃ s5 p5 k5 c5 q5 l5 d5 sz5 pz5 kz5 cz5 qz5 lz5 dz5 x5 y5, e = .returned (.tuple #[.agg #[.bool s5, .slice p5 k5 c5, .slice q5 l5 d5, .bool sz5, .slice pz5 kz5 cz5, .slice qz5 lz5 dz5, .bool x5, .bool y5], .int .i64 (kcode v k c f (a, b, x1, y1))]) ∧ Hid (GRep w' (.agg #[.bool s5, .slice p5 k5 c5, .slice q5 l5 d5, .bool sz5, .slice pz5 kz5 cz5, .slice qz5 lz5 dz5, .bool x5, .bool y5]) (kval v k f (a, b, x1, y1))) ∧ Below w.heap.size w w' := by
 unfold kcode kval
 cases hk : kon v k (a, b, x1, y1)
 ·have hk' : ilarge (a, b, x1, y1) = false → v = true → (srd (a, b, x1, y1)).2.2 = false → k (srd (a, b, x1, y1)) = false := by
   intro h1 h2 h3
   unfold kon at hk
   rw [h1, h2, h3] at hk
   exact hk
  exact one_gen s1 p1 k1 c1 q1 l1 d1 sz1 pz1 kz1 cz1 qz1 lz1 dz1 x1 y1 v g cap f a b w ha hb ht hfn
   (fun hv h1 h2 h3 => hr hv h1 h2 h3 (hk' (by show (large a.2.1 a.2.2 || large b.2.1 b.2.2) = false; rw [h1, h2]; rfl) hv h3))
   (fun hv h1 h2 h3 => hop hv h1 h2 h3 (hk' (by show (large a.2.1 a.2.2 || large b.2.1 b.2.2) = false; rw [h1, h2]; rfl) hv h3))
 ·unfold kon at hk
  rw [Bool.and_eq_true, Bool.and_eq_true, Bool.and_eq_true] at hk
  obtain ⟨⟨⟨hla, hv⟩, he⟩, hkk⟩ := hk
  subst hv
  have hL : (large a.2.1 a.2.2 || large b.2.1 b.2.2) = false := by
   have : ilarge (a, b, x1, y1) = false := by revert hla; cases ilarge (a, b, x1, y1) <;> decide
   exact this
  rw [Bool.or_eq_false_iff] at hL
  have he' : (srd (a, b, x1, y1)).2.2 = false := by revert he; cases (srd (a, b, x1, y1)).2.2 <;> decide
  exact one_any s1 p1 k1 c1 q1 l1 d1 sz1 pz1 kz1 cz1 qz1 lz1 dz1 x1 y1 true g cap _ _ w fun W hW hBv hBo =>
   askI_err s1 p1 k1 c1 q1 l1 d1 sz1 pz1 kz1 cz1 qz1 lz1 dz1 x1 y1 _ _ a b c W (ha.below hW) (hb.below hW) hL.1 hL.2 (ht.below hW) enter_one1 fun W4 i3 s3 p3 k3 c3 q3 l3 d3 j3 sz3 pz3 kz3 cz3 qz3 lz3 dz3 e3 hW4 hS =>
    one1_pan i3 s3 p3 k3 c3 q3 l3 d3 j3 sz3 pz3 kz3 cz3 qz3 lz3 dz3 e3 (w.heap.size + 1) (w.heap.size + 1 + 1) g cap _ c W4 (hBv.below hW4) (hBo.below hW4) hS he' hfn fun W5 hW5 hS5 =>
     hop2 rfl hL.1 hL.2 he' hkk W5 i3 s3 p3 k3 c3 q3 l3 d3 j3 sz3 pz3 kz3 cz3 qz3 lz3 dz3 e3 ((hW.trans (hW4.mono hW.size)).trans (hW5.mono (hW.trans (hW4.mono hW.size)).size)) hS5
theorem rvalid_of {n p : Int} (h : rvalid n p = true) : ∃ nn pr : Nat, n = (nn : Int) ∧ p = (pr : Int) ∧ 2 ≤ nn ∧ nn ≤ 8 ∧ pr ≤ 128 := by
 unfold rvalid prec at h
 rw [Bool.and_eq_true, Bool.and_eq_true, Bool.and_eq_true, decide_eq_true_eq, decide_eq_true_eq, decide_eq_true_eq, decide_eq_true_eq] at h
 exact ⟨n.toNat, p.toNat, by omega, by omega, by omega, by omega, by omega⟩
theorem b200_W {x : Nat} (h : x < B16 ^ 200) : x < W32 ^ 100000 := by
 have h1 : B16 ^ 200 ≤ W32 ^ 200 := Nat.pow_le_pow_left (by decide) _
 have h2 := Nat.lt_of_lt_of_le h h1
 generalize hA : 200 = A at *
 generalize hB : 100000 = B at *
 exact lt_pow h2 (by omega)
theorem grup_b {t : Bool × Nat × Nat} {n p : Nat} (hn : t.2.1 < B16 ^ 128) (h2 : 2 ≤ n) (h8 : n ≤ 8) (hp : p ≤ 256) : (grup t n p).2.1 < B16 ^ 200 ∧ (grup t n p).2.2 < B16 ^ 200 := by
 have h := gsz_B hn h2 h8 hp
 unfold grup
 refine gr_b ?_ hp
 split <;> omega
theorem EOk.rd {x : Int × Bool × Nat × Nat} {n p : Nat} (h : EOk 64 x) (h2 : 2 ≤ n) (h8 : n ≤ 8) (hp : p ≤ 256) : EOk 100000 (ertd x n p) := by
 unfold ertd
 by_cases h0 : x.1 = 0
 ·rw [if_pos h0]
  have k := grdn_b (t := x.2) (p := p) (lt_W_B6 h.bn (by omega)) h2 h8 hp
  exact ⟨fun _ => grdn_fr _ _ _, fun h => absurd rfl h, b200_W k.1, b200_W k.2⟩
 ·rw [if_neg h0]
  exact h.le (by omega)
theorem EOk.ru {x : Int × Bool × Nat × Nat} {n p : Nat} (h : EOk 64 x) (h2 : 2 ≤ n) (h8 : n ≤ 8) (hp : p ≤ 256) : EOk 100000 (ertu x n p) := by
 unfold ertu
 by_cases h0 : x.1 = 0
 ·rw [if_pos h0]
  have k := grup_b (t := x.2) (p := p) (lt_W_B6 h.bn (by omega)) h2 h8 hp
  exact ⟨fun _ => grup_fr _ _ _, fun h => absurd rfl h, b200_W k.1, b200_W k.2⟩
 ·rw [if_neg h0]
  exact h.le (by omega)
theorem iRoot_gen (s1 : Bool) (p1 : Option Addr) (k1 c1 : Nat) (q1 : Option Addr) (l1 d1 : Nat) (sz1 : Bool) (pz1 : Option Addr) (kz1 cz1 : Nat) (qz1 : Option Addr) (lz1 dz1 : Nat) (x1 : Bool) (y1 : Bool) (n p : Int) (c : Int) (D : (Bool × Nat × Nat) × (Bool × Nat × Nat) × Bool × Bool) (w : World)
  (HC : Hid (∀ W, Below w.heap.size w W → Box W (w.heap.size + 1) #[.int .i64 n] → Box W (w.heap.size + 1 + 1) #[.int .i64 p] → Calls Tryz.prog 58 #[.agg #[.bool s1, .slice p1 k1 c1, .slice q1 l1 d1, .bool sz1, .slice pz1 kz1 cz1, .slice qz1 lz1 dz1, .bool x1, .bool y1], .bool (rvalid n p), .func (.func 63) #[] #[.pointer (some ⟨w.heap.size + 1, 0, none⟩), .pointer (some ⟨w.heap.size + 1 + 1, 0, none⟩)]] W fun e w' => ∃ s5 p5 k5 c5 q5 l5 d5 sz5 pz5 kz5 cz5 qz5 lz5 dz5 x5 y5, e = .returned (.tuple #[.agg #[.bool s5, .slice p5 k5 c5, .slice q5 l5 d5, .bool sz5, .slice pz5 kz5 cz5, .slice qz5 lz5 dz5, .bool x5, .bool y5], .int .i64 c]) ∧ Hid (GRep w' (.agg #[.bool s5, .slice p5 k5 c5, .slice q5 l5 d5, .bool sz5, .slice pz5 kz5 cz5, .slice qz5 lz5 dz5, .bool x5, .bool y5]) D) ∧ Below W.heap.size W w')) :
  Calls Tryz.prog 22 #[.agg #[.bool s1, .slice p1 k1 c1, .slice q1 l1 d1, .bool sz1, .slice pz1 kz1 cz1, .slice qz1 lz1 dz1, .bool x1, .bool y1], .int .i64 n, .int .i64 p] w fun e w' => ∃ s5 p5 k5 c5 q5 l5 d5 sz5 pz5 kz5 cz5 qz5 lz5 dz5 x5 y5, e = .returned (.tuple #[.agg #[.bool s5, .slice p5 k5 c5, .slice q5 l5 d5, .bool sz5, .slice pz5 kz5 cz5, .slice qz5 lz5 dz5, .bool x5, .bool y5], .int .i64 c]) ∧ Hid (GRep w' (.agg #[.bool s5, .slice p5 k5 c5, .slice q5 l5 d5, .bool sz5, .slice pz5 kz5 cz5, .slice qz5 lz5 dz5, .bool x5, .bool y5]) D) ∧ Below w.heap.size w w' := by
 have hmf := makeFunc_run
 have HPr := hid (isPrecision_any p)
 unfold rvalid at HC
 obtain ⟨u, hu⟩ : ∃ u, u = prec p := ⟨_, rfl⟩
 obtain ⟨l, hl⟩ : ∃ u, u = decide (2 ≤ n) := ⟨_, rfl⟩
 obtain ⟨g, hg⟩ : ∃ u, u = decide (n ≤ 8) := ⟨_, rfl⟩
 rw [← hu] at HPr
 rw [← hu, ← hl, ← hg] at HC
 clear hu
 have hl' := hl.symm
 have hg' := hg.symm
 clear hl hg
 cases u
 all_goals (try cases l)
 all_goals (try cases g)
 all_goals
  go_enter Tryz.func22, Tryz.ntmps22
  go_upto_region 1 with fail
  generalize hA : World.alloc _ _ = W0
  have HV := hid (pre4_o hA nd8 nd1 nd1 nd8)
  clear hA
  obtain ⟨t0, _⟩ := HV.out.2.1.cells1
  obtain ⟨t1, _⟩ := HV.out.2.2.1.cells1
  go_wp2_with fail
  refine (HPr.out _).mono ?_
  rintro e wa ⟨rfl, rfl⟩
  clear t0 t1
  obtain ⟨t0, _⟩ := HV.out.2.1.cells1
  obtain ⟨m0, m1, m2, m3, m4, m5, m6, m7, _⟩ := HV.out.1.cells8
  go_wp2_with fail
  refine (HC.out _ HV.out.2.2.2.2 HV.out.2.1 HV.out.2.2.1).mono ?_
  rintro e wb ⟨s5, p5, k5, c5, q5, l5, d5, sz5, pz5, kz5, cz5, qz5, lz5, dz5, x5, y5, rfl, hG, hB2⟩
  clear t0 m0 m1 m2 m3 m4 m5 m6 m7
  have HE := hid (And.intro (HV.out.2.2.2.1.below hB2) (And.intro hG.out (HV.out.2.2.2.2.trans (hB2.mono HV.out.2.2.2.2.size))))
  clear hB2 hG
  obtain ⟨g0, g1, g2, g3, g4, g5, g6, g7, f0, f1, f2, f3, f4, f5, f6, f7⟩ := HE.out.1.cells8
  go_wp2_with fail
  exact iRoot_ret rfl rfl (HE.out.1.stores [.bool s5, .slice p5 k5 c5, .slice q5 l5 d5, .bool sz5, .slice pz5 kz5 cz5, .slice qz5 lz5 dz5, .bool x5, .bool y5] rfl nd8) ⟨s5, p5, k5, c5, q5, l5, d5, sz5, pz5, kz5, cz5, qz5, lz5, dz5, x5, y5, rfl, hid (GRep.stores (k := 0) (l := [.bool s5, .slice p5 k5 c5, .slice q5 l5 d5, .bool sz5, .slice pz5 kz5 cz5, .slice qz5 lz5 dz5, .bool x5, .bool y5]) HE.out.2.1 HE.out.1 nd8), Below.stores (k := 0) (l := [.bool s5, .slice p5 k5 c5, .slice q5 l5 d5, .bool sz5, .slice pz5 kz5 cz5, .slice qz5 lz5 dz5, .bool x5, .bool y5]) HE.out.2.2 (by omega)⟩
theorem iRoot_any (s1 : Bool) (p1 : Option Addr) (k1 c1 : Nat) (q1 : Option Addr) (l1 d1 : Nat) (sz1 : Bool) (pz1 : Option Addr) (kz1 cz1 : Nat) (qz1 : Option Addr) (lz1 dz1 : Nat) (x1 : Bool) (y1 : Bool) (a b : Bool × Nat × Nat) (n p : Int) (w : World) (ha : NRep w (.agg #[.bool s1, .slice p1 k1 c1, .slice q1 l1 d1]) a) (hb : NRep w (.agg #[.bool sz1, .slice pz1 kz1 cz1, .slice qz1 lz1 dz1]) b) (ht : TabOk w) :
  Calls Tryz.prog 22 #[.agg #[.bool s1, .slice p1 k1 c1, .slice q1 l1 d1, .bool sz1, .slice pz1 kz1 cz1, .slice qz1 lz1 dz1, .bool x1, .bool y1], .int .i64 n, .int .i64 p] w fun e w' => ∃ s5 p5 k5 c5 q5 l5 d5 sz5 pz5 kz5 cz5 qz5 lz5 dz5 x5 y5, e = .returned (.tuple #[.agg #[.bool s5, .slice p5 k5 c5, .slice q5 l5 d5, .bool sz5, .slice pz5 kz5 cz5, .slice qz5 lz5 dz5, .bool x5, .bool y5], .int .i64 (kcode (rvalid n p) (fun x => rdom x n.toNat) 5 (srt n p) (a, b, x1, y1))]) ∧ Hid (GRep w' (.agg #[.bool s5, .slice p5 k5 c5, .slice q5 l5 d5, .bool sz5, .slice pz5 kz5 cz5, .slice qz5 lz5 dz5, .bool x5, .bool y5]) (kval (rvalid n p) (fun x => rdom x n.toNat) (srt n p) (a, b, x1, y1))) ∧ Below w.heap.size w w' := by
 refine iRoot_gen s1 p1 k1 c1 q1 l1 d1 sz1 pz1 kz1 cz1 qz1 lz1 dz1 x1 y1 n p _ _ w (hid fun W hW hBn hBp => ?_)
 refine one_k s1 p1 k1 c1 q1 l1 d1 sz1 pz1 kz1 cz1 qz1 lz1 dz1 x1 y1 (rvalid n p) _ _ (fun x => rdom x n.toNat) 5 (srt n p) a b W (ha.below hW) (hb.below hW) (ht.below hW) enter_Root1 ?_ ?_ ?_
 ·intro hv h1 h2 _ _
  obtain ⟨nn, pr, rfl, rfl, k2, k8, kp⟩ := rvalid_of hv
  exact ⟨⟨(rdE_ok (inf := x1) (g := -1) (.inr rfl) h1).rd k2 k8 (by show pr ≤ 256; omega), (rdE_ok (inf := y1) (g := 1) (.inl rfl) h2).ru k2 k8 (by show pr ≤ 256; omega)⟩, rfl⟩
 ·intro hv h1 h2 _ hk W' i3 s3 p3 k3 c3 q3 l3 d3 j3 sz3 pz3 kz3 cz3 qz3 lz3 dz3 e3 hW' hS
  obtain ⟨nn, pr, rfl, rfl, k2, k8, kp⟩ := rvalid_of hv
  exact Root1_ok i3 s3 p3 k3 c3 q3 l3 d3 j3 sz3 pz3 kz3 cz3 qz3 lz3 dz3 e3 _ _ _ _ _ W' (hBn.below hW') (hBp.below hW') (hid fun W2 hW2 => (sroot_any i3 s3 p3 k3 c3 q3 l3 d3 j3 sz3 pz3 kz3 cz3 qz3 lz3 dz3 e3 nn pr _ W2 (hS.below hW2) ⟨rdE_ok (.inr rfl) h1, rdE_ok (.inl rfl) h2⟩ k2 k8 (by omega) (((ht.below hW).below hW').below hW2)).1 hk)
 ·intro hv h1 h2 _ hk W' i3 s3 p3 k3 c3 q3 l3 d3 j3 sz3 pz3 kz3 cz3 qz3 lz3 dz3 e3 hW' hS
  obtain ⟨nn, pr, rfl, rfl, k2, k8, kp⟩ := rvalid_of hv
  exact Root1_err i3 s3 p3 k3 c3 q3 l3 d3 j3 sz3 pz3 kz3 cz3 qz3 lz3 dz3 e3 _ _ _ _ _ W' (hBn.below hW') (hBp.below hW') (hid fun W2 hW2 => (sroot_any i3 s3 p3 k3 c3 q3 l3 d3 j3 sz3 pz3 kz3 cz3 qz3 lz3 dz3 e3 nn pr _ W2 (hS.below hW2) ⟨rdE_ok (.inr rfl) h1, rdE_ok (.inl rfl) h2⟩ k2 k8 (by omega) (((ht.below hW).below hW').below hW2)).2 hk)
end Go.Proofs.YtheojajaefjecaaGreatDoor
