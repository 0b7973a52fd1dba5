/- Ends of the program: operations. Ends of the program: sums, and as numbers of the interface. -/
import Derived.Test.YtheojajaefjecaaGreatDoorIvC
import Derived.Test.YtheojajaefjecaaGreatDoorFinB
set_option maxHeartbeats 1000000
namespace Go.Proofs.YtheojajaefjecaaGreatDoor
open Go.RowKit Dg
theorem ERep.stores {l : List Value} {w : World} {B k : Nat} {cs : Array Value} {v : Value} {x : Int × Bool × Nat × Nat} (h : ERep w v x) (hB : Box w B cs) (hn : NDs l) : ERep (Go.Proofs.YtheojajaefjecaaGreatDoor.stores w B k l) v x := by
 obtain ⟨vn, vd, hv, h1, h2⟩ := h
 exact ⟨vn, vd, hv, Rep.stores h1 hB hn, Rep.stores h2 hB hn⟩
theorem lt_100k1 {x : Nat} (h : x < W32 ^ 1000) : x < W32 ^ 100000 := by
 generalize hA : 1000 = A at *
 generalize hB : 100000 = B at *
 exact lt_pow h (by omega)
theorem lt_1m4 {x : Nat} (h : x < W32 ^ 1000) : x < W32 ^ 4000000 := by
 generalize hA : 1000 = A at *
 generalize hB : 4000000 = B at *
 exact lt_pow h (by omega)
theorem lt_1g5 {x : Nat} (h : x < W32 ^ 100000) : x < W32 ^ 1000000000 := lt_big h (by omega)
theorem isFr_low {t : Bool × Nat × Nat} (h : IsFr t) : Nat.gcd t.2.1 t.2.2 = 1 := by
 obtain ⟨s, n, d, hd, rfl⟩ := h
 exact frac_gcd hd
theorem SRep.below {w w' : World} {v : Value} {x : (Int × Bool × Nat × Nat) × (Int × Bool × Nat × Nat) × Bool} (h : SRep w v x) (hb : Below w.heap.size w w') : SRep w' v x := by
 obtain ⟨i, s, p, k, c, q, l, d, j, sz, pz, kz, cz, qz, lz, dz, e, hv, h1, h2, h3⟩ := h
 exact ⟨i, s, p, k, c, q, l, d, j, sz, pz, kz, cz, qz, lz, dz, e, hv, h1.below hb, h2.below hb, h3⟩
theorem SRep.stores {l : List Value} {w : World} {B k : Nat} {cs : Array Value} {v : Value} {x : (Int × Bool × Nat × Nat) × (Int × Bool × Nat × Nat) × Bool} (h : SRep w v x) (hB : Box w B cs) (hn : NDs l) : SRep (Go.Proofs.YtheojajaefjecaaGreatDoor.stores w B k l) v x := by
 obtain ⟨i, s, p, k, c, q, l, d, j, sz, pz, kz, cz, qz, lz, dz, e, hv, h1, h2, h3⟩ := h
 exact ⟨i, s, p, k, c, q, l, d, j, sz, pz, kz, cz, qz, lz, dz, e, hv, ERep.stores h1 hB hn, ERep.stores h2 hB hn, h3⟩
theorem FNorm.zero (w : World) : FNorm w (.agg #[.bool false, .slice none 0 0, .slice none 0 0]) (false, 0, 0) := ⟨_, _, rfl, Rep.nil, Rep.nil⟩
theorem downf_ret {W : World} {B : Nat} {a0 a1 a2 : Value} {tm : Array Value} {R : Ending → World → Prop} (h2 : tm[3]?.getD undef = .pointer (some ⟨B, 0, none⟩)) (hV : Box W B #[a0, a1, a2]) (hR : R (.returned (.agg #[a0, a1, a2])) W) :
  bodyPost Tryz.prog Tryz.f182 R .ret { tmps := tm, defers := [] } W := by
 obtain ⟨g0, g1, g2, _⟩ := hV.cells3
 exact bodyPost_ret (v := .agg #[a0, a1, a2]) (by simp [results, Tryz.results182, go_sem, h2, g0, g1, g2]) rfl hR
theorem upf_ret {W : World} {B : Nat} {a0 a1 a2 : Value} {tm : Array Value} {R : Ending → World → Prop} (h2 : tm[3]?.getD undef = .pointer (some ⟨B, 0, none⟩)) (hV : Box W B #[a0, a1, a2]) (hR : R (.returned (.agg #[a0, a1, a2])) W) :
  bodyPost Tryz.prog Tryz.f184 R .ret { tmps := tm, defers := [] } W := by
 obtain ⟨g0, g1, g2, _⟩ := hV.cells3
 exact bodyPost_ret (v := .agg #[a0, a1, a2]) (by simp [results, Tryz.results184, go_sem, h2, g0, g1, g2]) rfl hR
theorem change_ret {W : World} {B : Nat} {a0 a1 a2 a3 : Value} {tm : Array Value} {R : Ending → World → Prop} (h2 : tm[4]?.getD undef = .pointer (some ⟨B, 0, none⟩)) (hV : Box W B #[a0, a1, a2, a3]) (hR : R (.returned (.agg #[a0, a1, a2, a3])) W) :
  bodyPost Tryz.prog Tryz.f179 R .ret { tmps := tm, defers := [] } W := by
 obtain ⟨g0, g1, g2, g3, _⟩ := hV.cells4
 exact bodyPost_ret (v := .agg #[a0, a1, a2, a3]) (by simp [results, Tryz.results179, go_sem, h2, g0, g1, g2, g3]) rfl hR
theorem down_ret {W : World} {B : Nat} {a0 a1 a2 a3 : Value} {tm : Array Value} {R : Ending → World → Prop} (h2 : tm[4]?.getD undef = .pointer (some ⟨B, 0, none⟩)) (hV : Box W B #[a0, a1, a2, a3]) (hR : R (.returned (.agg #[a0, a1, a2, a3])) W) :
  bodyPost Tryz.prog Tryz.f128 R .ret { tmps := tm, defers := [] } W := by
 obtain ⟨g0, g1, g2, g3, _⟩ := hV.cells4
 exact bodyPost_ret (v := .agg #[a0, a1, a2, a3]) (by simp [results, Tryz.results128, go_sem, h2, g0, g1, g2, g3]) rfl hR
theorem up_ret {W : World} {B : Nat} {a0 a1 a2 a3 : Value} {tm : Array Value} {R : Ending → World → Prop} (h2 : tm[4]?.getD undef = .pointer (some ⟨B, 0, none⟩)) (hV : Box W B #[a0, a1, a2, a3]) (hR : R (.returned (.agg #[a0, a1, a2, a3])) W) :
  bodyPost Tryz.prog Tryz.f129 R .ret { tmps := tm, defers := [] } W := by
 obtain ⟨g0, g1, g2, g3, _⟩ := hV.cells4
 exact bodyPost_ret (v := .agg #[a0, a1, a2, a3]) (by simp [results, Tryz.results129, go_sem, h2, g0, g1, g2, g3]) rfl hR
theorem downf_any (s1 : Bool) (p1 : Option Addr) (k1 c1 : Nat) (q1 : Option Addr) (l1 d1 : Nat) (Bp : Nat) (pr : Nat) (t : Bool × Nat × Nat) (w : World) (h : FNorm w (.agg #[.bool s1, .slice p1 k1 c1, .slice q1 l1 d1]) t) (hn : t.2.1 < W32 ^ 100000) (hd : t.2.2 < W32 ^ 100000) (h0 : 0 < t.2.2) (hp : pr ≤ 1000000) (ht : TabOk w) (hB : Box w Bp #[.int .i64 (pr : Int)]) :
  Calls Tryz.prog 182 #[.agg #[.bool s1, .slice p1 k1 c1, .slice q1 l1 d1], .pointer (some ⟨Bp, 0, none⟩)] w fun e w' => ∃ s2 p2 k2 c2 q2 l2 d2, e = .returned (.agg #[.bool s2, .slice p2 k2 c2, .slice q2 l2 d2]) ∧ Hid (FNorm w' (.agg #[.bool s2, .slice p2 k2 c2, .slice q2 l2 d2]) (gdn t pr)) ∧ Below w.heap.size w w' := by
 have HD := hid (fun (W : World) (hW : Below w.heap.size w W) => fopen (t := gdn t pr) (FracDown_any (.agg #[.bool s1, .slice p1 k1 c1, .slice q1 l1 d1]) t pr W (h.below hW) hn hd h0 hp (ht.below hW)))
 have HP := hid hB
 have hl := hB.lt
 clear h hn hd h0 ht hB
 obtain ⟨r, hr⟩ : ∃ r, r = gdn t pr := ⟨_, rfl⟩
 rw [← hr] at HD ⊢
 clear hr
 obtain ⟨pi, hpi⟩ : ∃ pi : Int, pi = (pr : Int) := ⟨_, rfl⟩
 rw [← hpi] at HD HP
 clear hpi hp
 go_enter Tryz.func182, Tryz.ntmps182
 have HPx := hid (fun (W : World) (hW : Below w.heap.size w W) => HP.out.below hW)
 obtain ⟨u0, _⟩ := HP.out.cells1
 go_wp2_with fail
 generalize hA : World.alloc _ _ = W0
 have HV := hid (pre2_o hA nd3 nd3)
 clear hA
 refine (HD.out _ HV.out.2.2).mono ?_
 rintro e w1 ⟨s2, p2, k2, c2, q2, l2, d2, rfl, hF, hB1⟩
 have HE := hid (And.intro (HV.out.2.1.below hB1) (HV.out.2.2.trans (hB1.mono HV.out.2.2.size)))
 clear hB1
 obtain ⟨g0, g1, g2, f0, f1, f2⟩ := HE.out.1.cells3
 go_wp2_with fail
 exact downf_ret rfl (HE.out.1.stores [.bool s2, .slice p2 k2 c2, .slice q2 l2 d2] rfl nd3) ⟨s2, p2, k2, c2, q2, l2, d2, rfl, hid (FNorm.stores (k := 0) (l := [.bool s2, .slice p2 k2 c2, .slice q2 l2 d2]) hF.out HE.out.1 nd3), Below.stores (k := 0) (l := [.bool s2, .slice p2 k2 c2, .slice q2 l2 d2]) HE.out.2 (Nat.le_succ _)⟩
theorem upf_any (s1 : Bool) (p1 : Option Addr) (k1 c1 : Nat) (q1 : Option Addr) (l1 d1 : Nat) (Bp : Nat) (pr : Nat) (t : Bool × Nat × Nat) (w : World) (h : FNorm w (.agg #[.bool s1, .slice p1 k1 c1, .slice q1 l1 d1]) t) (hn : t.2.1 < W32 ^ 100000) (hd : t.2.2 < W32 ^ 100000) (h0 : 0 < t.2.2) (hp : pr ≤ 1000000) (ht : TabOk w) (hB : Box w Bp #[.int .i64 (pr : Int)]) :
  Calls Tryz.prog 184 #[.agg #[.bool s1, .slice p1 k1 c1, .slice q1 l1 d1], .pointer (some ⟨Bp, 0, none⟩)] w fun e w' => ∃ s2 p2 k2 c2 q2 l2 d2, e = .returned (.agg #[.bool s2, .slice p2 k2 c2, .slice q2 l2 d2]) ∧ Hid (FNorm w' (.agg #[.bool s2, .slice p2 k2 c2, .slice q2 l2 d2]) (gup t pr)) ∧ Below w.heap.size w w' := by
 have HD := hid (fun (W : World) (hW : Below w.heap.size w W) => fopen (t := gup t pr) (FracUp_any (.agg #[.bool s1, .slice p1 k1 c1, .slice q1 l1 d1]) t pr W (h.below hW) hn hd h0 hp (ht.below hW)))
 have HP := hid hB
 have hl := hB.lt
 clear h hn hd h0 ht hB
 obtain ⟨r, hr⟩ : ∃ r, r = gup t pr := ⟨_, rfl⟩
 rw [← hr] at HD ⊢
 clear hr
 obtain ⟨pi, hpi⟩ : ∃ pi : Int, pi = (pr : Int) := ⟨_, rfl⟩
 rw [← hpi] at HD HP
 clear hpi hp
 go_enter Tryz.func184, Tryz.ntmps184
 have HPx := hid (fun (W : World) (hW : Below w.heap.size w W) => HP.out.below hW)
 obtain ⟨u0, _⟩ := HP.out.cells1
 go_wp2_with fail
 generalize hA : World.alloc _ _ = W0
 have HV := hid (pre2_o hA nd3 nd3)
 clear hA
 refine (HD.out _ HV.out.2.2).mono ?_
 rintro e w1 ⟨s2, p2, k2, c2, q2, l2, d2, rfl, hF, hB1⟩
 have HE := hid (And.intro (HV.out.2.1.below hB1) (HV.out.2.2.trans (hB1.mono HV.out.2.2.size)))
 clear hB1
 obtain ⟨g0, g1, g2, f0, f1, f2⟩ := HE.out.1.cells3
 go_wp2_with fail
 exact upf_ret rfl (HE.out.1.stores [.bool s2, .slice p2 k2 c2, .slice q2 l2 d2] rfl nd3) ⟨s2, p2, k2, c2, q2, l2, d2, rfl, hid (FNorm.stores (k := 0) (l := [.bool s2, .slice p2 k2 c2, .slice q2 l2 d2]) hF.out HE.out.1 nd3), Below.stores (k := 0) (l := [.bool s2, .slice p2 k2 c2, .slice q2 l2 d2]) HE.out.2 (Nat.le_succ _)⟩
theorem change_inf (i1 : Int) (s1 : Bool) (p1 : Option Addr) (k1 c1 : Nat) (q1 : Option Addr) (l1 d1 : Nat) (f : Value) (w : World) (h : i1 ≠ 0) :
  Calls Tryz.prog 179 #[.agg #[.int .i64 i1, .bool s1, .slice p1 k1 c1, .slice q1 l1 d1], f] w fun e w' => e = .returned (.agg #[.int .i64 i1, .bool s1, .slice p1 k1 c1, .slice q1 l1 d1]) ∧ Below w.heap.size w w' := by
 have hi : (i1 != 0) = true := by simp [h]
 clear h
 go_enter Tryz.func179, Tryz.ntmps179
 go_wp2_with fail
 generalize hA : World.alloc _ _ = W0
 have HV := hid (pre2_o hA nd4 nd4)
 clear hA
 refine (infinite_any i1 s1 p1 k1 c1 q1 l1 d1 W0).mono ?_
 rintro e w1 ⟨rfl, hB1⟩
 rw [hi]
 have HE := hid (And.intro (HV.out.2.1.below hB1) (HV.out.2.2.trans (hB1.mono HV.out.2.2.size)))
 obtain ⟨u0, u1, u2, u3, _⟩ := (HV.out.1.below hB1).cells4
 obtain ⟨g0, g1, g2, g3, f0, f1, f2, f3⟩ := HE.out.1.cells4
 clear hB1
 go_wp2_with fail
 exact change_ret rfl (HE.out.1.stores [.int .i64 i1, .bool s1, .slice p1 k1 c1, .slice q1 l1 d1] rfl nd4) ⟨rfl, Below.stores (k := 0) (l := [.int .i64 i1, .bool s1, .slice p1 k1 c1, .slice q1 l1 d1]) HE.out.2 (Nat.le_succ _)⟩
theorem change_fin (s1 : Bool) (p1 : Option Addr) (k1 c1 : Nat) (q1 : Option Addr) (l1 d1 : Nat) (g : FuncId) (cap : Array Value) (r : Bool × Nat × Nat) (w : World) (hfn : ∀ args W, (callFunc g args).run Tryz.prog W = .ok (.enter g args) W)
  (hop : ∀ W, Below w.heap.size w W → Calls Tryz.prog g (#[.agg #[.bool s1, .slice p1 k1 c1, .slice q1 l1 d1]] ++ cap) W fun e w' => ∃ s2 p2 k2 c2 q2 l2 d2, e = .returned (.agg #[.bool s2, .slice p2 k2 c2, .slice q2 l2 d2]) ∧ Hid (FNorm w' (.agg #[.bool s2, .slice p2 k2 c2, .slice q2 l2 d2]) r) ∧ Below W.heap.size W w') :
  Calls Tryz.prog 179 #[.agg #[.int .i64 0, .bool s1, .slice p1 k1 c1, .slice q1 l1 d1], .func (.func g) #[] cap] w fun e w' => ∃ s2 p2 k2 c2 q2 l2 d2, e = .returned (.agg #[.int .i64 0, .bool s2, .slice p2 k2 c2, .slice q2 l2 d2]) ∧ Hid (FNorm w' (.agg #[.bool s2, .slice p2 k2 c2, .slice q2 l2 d2]) r) ∧ Below w.heap.size w w' := by
 have HO := hid hop
 clear hop
 go_enter Tryz.func179, Tryz.ntmps179
 go_wp2_with fail
 generalize hA : World.alloc _ _ = W0
 have HV := hid (pre2_o hA nd4 nd4)
 clear hA
 refine (infinite_any 0 s1 p1 k1 c1 q1 l1 d1 W0).mono ?_
 rintro e w1 ⟨rfl, hB1⟩
 rw [show ((0 : Int) != 0) = false from rfl]
 have HE := hid (And.intro (HV.out.2.1.below hB1) (HV.out.2.2.trans (hB1.mono HV.out.2.2.size)))
 obtain ⟨u0, u1, u2, u3, _⟩ := (HV.out.1.below hB1).cells4
 clear hB1
 go_wp2_with fail
 refine (HO.out _ HE.out.2).mono ?_
 rintro e w2 ⟨s2, p2, k2, c2, q2, l2, d2, rfl, hF, hB2⟩
 have HE2 := hid (And.intro (HE.out.1.below hB2) (HE.out.2.trans (hB2.mono HE.out.2.size)))
 clear hB2 u0 u1 u2 u3
 go_wp2_with fail
 refine (finite_any s2 p2 k2 c2 q2 l2 d2 w2).mono ?_
 rintro e w3 ⟨rfl, hB3⟩
 have HE3 := hid (And.intro (HE2.out.1.below hB3) (HE2.out.2.trans (hB3.mono HE2.out.2.size)))
 have HF3 := hid (hF.out.below hB3)
 clear hB3 hF
 obtain ⟨g0, g1, g2, g3, f0, f1, f2, f3⟩ := HE3.out.1.cells4
 go_wp2_with fail
 exact change_ret rfl (HE3.out.1.stores [.int .i64 0, .bool s2, .slice p2 k2 c2, .slice q2 l2 d2] rfl nd4) ⟨s2, p2, k2, c2, q2, l2, d2, rfl, hid (FNorm.stores (k := 0) (l := [.int .i64 0, .bool s2, .slice p2 k2 c2, .slice q2 l2 d2]) HF3.out HE3.out.1 nd4), Below.stores (k := 0) (l := [.int .i64 0, .bool s2, .slice p2 k2 c2, .slice q2 l2 d2]) HE3.out.2 (Nat.le_succ _)⟩
def edn (x : Int × Bool × Nat × Nat) (p : Nat) : Int × Bool × Nat × Nat := if x.1 = 0 then (0, gdn x.2 p) else x
theorem enter_down (args : Array Value) (w : World) : (callFunc 182 args).run Tryz.prog w = .ok (.enter 182 args) w := call_enter Tryz.func182 (by kernel_rfl) rfl args w
theorem down_any (i1 : Int) (s1 : Bool) (p1 : Option Addr) (k1 c1 : Nat) (q1 : Option Addr) (l1 d1 : Nat) (x : Int × Bool × Nat × Nat) (pr : Nat) (w : World) (h : ERep w (.agg #[.int .i64 i1, .bool s1, .slice p1 k1 c1, .slice q1 l1 d1]) x) (hx : EOk 1000 x) (hp : pr ≤ 1000000) (ht : TabOk w) :
  Calls Tryz.prog 128 #[.agg #[.int .i64 i1, .bool s1, .slice p1 k1 c1, .slice q1 l1 d1], .int .i64 (pr : Int)] w fun e w' => ∃ i2 s2 p2 k2 c2 q2 l2 d2, e = .returned (.agg #[.int .i64 i2, .bool s2, .slice p2 k2 c2, .slice q2 l2 d2]) ∧ Hid (ERep w' (.agg #[.int .i64 i2, .bool s2, .slice p2 k2 c2, .slice q2 l2 d2]) (edn x pr)) ∧ Below w.heap.size w w' := by
 have hmf := makeFunc_run
 obtain ⟨hi, hF⟩ := h.frac
 have HC : Hid (∀ (W : World), Below w.heap.size w W → Box W (w.heap.size + 1) #[.int .i64 (pr : Int)] → Calls Tryz.prog 179 #[.agg #[.int .i64 i1, .bool s1, .slice p1 k1 c1, .slice q1 l1 d1], .func (.func 182) #[] #[.pointer (some ⟨w.heap.size + 1, 0, none⟩)]] W fun e w' => ∃ i2 s2 p2 k2 c2 q2 l2 d2, e = .returned (.agg #[.int .i64 i2, .bool s2, .slice p2 k2 c2, .slice q2 l2 d2]) ∧ Hid (ERep w' (.agg #[.int .i64 i2, .bool s2, .slice p2 k2 c2, .slice q2 l2 d2]) (edn x pr)) ∧ Below W.heap.size W w') := by
  refine hid fun W hW hBp => ?_
  by_cases h0 : x.1 = 0
  ·rw [h0] at hi
   subst hi
   have hfr := hx.fin h0
   refine (change_fin s1 p1 k1 c1 q1 l1 d1 _ #[.pointer (some ⟨w.heap.size + 1, 0, none⟩)] (gdn x.2 pr) W enter_down (fun W' hW' => downf_any s1 p1 k1 c1 q1 l1 d1 (w.heap.size + 1) pr x.2 W' ((hF.below hW).below hW') (lt_100k1 hx.bn) (lt_100k1 hx.bd) hfr.pos hp ((ht.below hW).below hW') (hBp.below hW'))).mono ?_
   rintro e w' ⟨s2, p2, k2, c2, q2, l2, d2, rfl, hF2, hB⟩
   refine ⟨0, s2, p2, k2, c2, q2, l2, d2, rfl, hid ?_, hB⟩
   unfold edn
   rw [if_pos h0]
   exact ERep.mk rfl hF2.out
  ·refine (change_inf i1 s1 p1 k1 c1 q1 l1 d1 _ W (by rw [hi]; exact h0)).mono ?_
   rintro e w' ⟨rfl, hB⟩
   refine ⟨i1, s1, p1, k1, c1, q1, l1, d1, rfl, hid ?_, hB⟩
   unfold edn
   rw [if_neg h0]
   exact (h.below hW).below hB
 clear h hx hp ht hi hF
 obtain ⟨r, hr⟩ : ∃ r, r = edn x pr := ⟨_, rfl⟩
 rw [← hr] at HC ⊢
 clear hr
 obtain ⟨pi, hpi⟩ : ∃ pi : Int, pi = (pr : Int) := ⟨_, rfl⟩
 rw [← hpi] at HC ⊢
 clear hpi
 go_enter Tryz.func128, Tryz.ntmps128
 go_wp2_with fail
 generalize hA : World.alloc _ _ = W0
 have HV := hid (pre3_o hA nd4 nd1 nd4)
 clear hA
 refine (HC.out _ HV.out.2.2.2 HV.out.2.1).mono ?_
 rintro e w1 ⟨i2, s2, p2, k2, c2, q2, l2, d2, rfl, hE, hB1⟩
 have HE := hid (And.intro (HV.out.2.2.1.below hB1) (HV.out.2.2.2.trans (hB1.mono HV.out.2.2.2.size)))
 clear hB1
 obtain ⟨g0, g1, g2, g3, f0, f1, f2, f3⟩ := HE.out.1.cells4
 go_wp2_with fail
 exact down_ret rfl (HE.out.1.stores [.int .i64 i2, .bool s2, .slice p2 k2 c2, .slice q2 l2 d2] rfl nd4) ⟨i2, s2, p2, k2, c2, q2, l2, d2, rfl, hid (ERep.stores (k := 0) (l := [.int .i64 i2, .bool s2, .slice p2 k2 c2, .slice q2 l2 d2]) hE.out HE.out.1 nd4), Below.stores (k := 0) (l := [.int .i64 i2, .bool s2, .slice p2 k2 c2, .slice q2 l2 d2]) HE.out.2 (by omega)⟩
def eup (x : Int × Bool × Nat × Nat) (p : Nat) : Int × Bool × Nat × Nat := if x.1 = 0 then (0, gup x.2 p) else x
theorem enter_up (args : Array Value) (w : World) : (callFunc 184 args).run Tryz.prog w = .ok (.enter 184 args) w := call_enter Tryz.func184 (by kernel_rfl) rfl args w
theorem up_any (i1 : Int) (s1 : Bool) (p1 : Option Addr) (k1 c1 : Nat) (q1 : Option Addr) (l1 d1 : Nat) (x : Int × Bool × Nat × Nat) (pr : Nat) (w : World) (h : ERep w (.agg #[.int .i64 i1, .bool s1, .slice p1 k1 c1, .slice q1 l1 d1]) x) (hx : EOk 1000 x) (hp : pr ≤ 1000000) (ht : TabOk w) :
  Calls Tryz.prog 129 #[.agg #[.int .i64 i1, .bool s1, .slice p1 k1 c1, .slice q1 l1 d1], .int .i64 (pr : Int)] w fun e w' => ∃ i2 s2 p2 k2 c2 q2 l2 d2, e = .returned (.agg #[.int .i64 i2, .bool s2, .slice p2 k2 c2, .slice q2 l2 d2]) ∧ Hid (ERep w' (.agg #[.int .i64 i2, .bool s2, .slice p2 k2 c2, .slice q2 l2 d2]) (eup x pr)) ∧ Below w.heap.size w w' := by
 have hmf := makeFunc_run
 obtain ⟨hi, hF⟩ := h.frac
 have HC : Hid (∀ (W : World), Below w.heap.size w W → Box W (w.heap.size + 1) #[.int .i64 (pr : Int)] → Calls Tryz.prog 179 #[.agg #[.int .i64 i1, .bool s1, .slice p1 k1 c1, .slice q1 l1 d1], .func (.func 184) #[] #[.pointer (some ⟨w.heap.size + 1, 0, none⟩)]] W fun e w' => ∃ i2 s2 p2 k2 c2 q2 l2 d2, e = .returned (.agg #[.int .i64 i2, .bool s2, .slice p2 k2 c2, .slice q2 l2 d2]) ∧ Hid (ERep w' (.agg #[.int .i64 i2, .bool s2, .slice p2 k2 c2, .slice q2 l2 d2]) (eup x pr)) ∧ Below W.heap.size W w') := by
  refine hid fun W hW hBp => ?_
  by_cases h0 : x.1 = 0
  ·rw [h0] at hi
   subst hi
   have hfr := hx.fin h0
   refine (change_fin s1 p1 k1 c1 q1 l1 d1 _ #[.pointer (some ⟨w.heap.size + 1, 0, none⟩)] (gup x.2 pr) W enter_up (fun W' hW' => upf_any s1 p1 k1 c1 q1 l1 d1 (w.heap.size + 1) pr x.2 W' ((hF.below hW).below hW') (lt_100k1 hx.bn) (lt_100k1 hx.bd) hfr.pos hp ((ht.below hW).below hW') (hBp.below hW'))).mono ?_
   rintro e w' ⟨s2, p2, k2, c2, q2, l2, d2, rfl, hF2, hB⟩
   refine ⟨0, s2, p2, k2, c2, q2, l2, d2, rfl, hid ?_, hB⟩
   unfold eup
   rw [if_pos h0]
   exact ERep.mk rfl hF2.out
  ·refine (change_inf i1 s1 p1 k1 c1 q1 l1 d1 _ W (by rw [hi]; exact h0)).mono ?_
   rintro e w' ⟨rfl, hB⟩
   refine ⟨i1, s1, p1, k1, c1, q1, l1, d1, rfl, hid ?_, hB⟩
   unfold eup
   rw [if_neg h0]
   exact (h.below hW).below hB
 clear h hx hp ht hi hF
 obtain ⟨r, hr⟩ : ∃ r, r = eup x pr := ⟨_, rfl⟩
 rw [← hr] at HC ⊢
 clear hr
 obtain ⟨pi, hpi⟩ : ∃ pi : Int, pi = (pr : Int) := ⟨_, rfl⟩
 rw [← hpi] at HC ⊢
 clear hpi
 go_enter Tryz.func129, Tryz.ntmps129
 go_wp2_with fail
 generalize hA : World.alloc _ _ = W0
 have HV := hid (pre3_o hA nd4 nd1 nd4)
 clear hA
 refine (HC.out _ HV.out.2.2.2 HV.out.2.1).mono ?_
 rintro e w1 ⟨i2, s2, p2, k2, c2, q2, l2, d2, rfl, hE, hB1⟩
 have HE := hid (And.intro (HV.out.2.2.1.below hB1) (HV.out.2.2.2.trans (hB1.mono HV.out.2.2.2.size)))
 clear hB1
 obtain ⟨g0, g1, g2, g3, f0, f1, f2, f3⟩ := HE.out.1.cells4
 go_wp2_with fail
 exact up_ret rfl (HE.out.1.stores [.int .i64 i2, .bool s2, .slice p2 k2 c2, .slice q2 l2 d2] rfl nd4) ⟨i2, s2, p2, k2, c2, q2, l2, d2, rfl, hid (ERep.stores (k := 0) (l := [.int .i64 i2, .bool s2, .slice p2 k2 c2, .slice q2 l2 d2]) hE.out HE.out.1 nd4), Below.stores (k := 0) (l := [.int .i64 i2, .bool s2, .slice p2 k2 c2, .slice q2 l2 d2]) HE.out.2 (by omega)⟩
end Go.Proofs.YtheojajaefjecaaGreatDoor
namespace Go.Proofs.YtheojajaefjecaaGreatDoor
open Go.RowKit Dg
theorem eplus_ret {W : World} {B : Nat} {a0 a1 a2 a3 : Value} {tm : Array Value} {R : Ending → World → Prop} (h2 : tm[4]?.getD undef = .pointer (some ⟨B, 0, none⟩)) (hV : Box W B #[a0, a1, a2, a3]) (hR : R (.returned (.agg #[a0, a1, a2, a3])) W) :
  bodyPost Tryz.prog Tryz.f141 R .ret { tmps := tm, defers := [] } W := by
 obtain ⟨g0, g1, g2, g3, _⟩ := hV.cells4
 exact bodyPost_ret (v := .agg #[a0, a1, a2, a3]) (by simp [results, Tryz.results141, go_sem, h2, g0, g1, g2, g3]) rfl hR
theorem erat_ret {W : World} {B : Nat} {a0 a1 a2 : Value} {tm : Array Value} {R : Ending → World → Prop} (h2 : tm[2]?.getD undef = .pointer (some ⟨B, 0, none⟩)) (hV : Box W B #[a0, a1, a2]) (hR : R (.returned (.agg #[a0, a1, a2])) W) :
  bodyPost Tryz.prog Tryz.f84 R .ret { tmps := tm, defers := [] } W := by
 obtain ⟨g0, g1, g2, _⟩ := hV.cells3
 exact bodyPost_ret (v := .agg #[a0, a1, a2]) (by simp [results, Tryz.results84, go_sem, h2, g0, g1, g2]) rfl hR
def eplus (x y : Int × Bool × Nat × Nat) : Int × Bool × Nat × Nat := if x.1 ≠ 0 then x else if y.1 ≠ 0 then y else (0, fadd x.2 y.2)
theorem eplus_any (i1 : Int) (s1 : Bool) (p1 : Option Addr) (k1 c1 : Nat) (q1 : Option Addr) (l1 d1 : Nat) (i2 : Int) (s2 : Bool) (p2 : Option Addr) (k2 c2 : Nat) (q2 : Option Addr) (l2 d2 : Nat) (x y : Int × Bool × Nat × Nat) (w : World) (h : ERep w (.agg #[.int .i64 i1, .bool s1, .slice p1 k1 c1, .slice q1 l1 d1]) x) (h' : ERep w (.agg #[.int .i64 i2, .bool s2, .slice p2 k2 c2, .slice q2 l2 d2]) y) (hx : EOk 1000 x) (hy : EOk 1000 y) (ht : TabOk w) :
  Calls Tryz.prog 141 #[.agg #[.int .i64 i1, .bool s1, .slice p1 k1 c1, .slice q1 l1 d1], .agg #[.int .i64 i2, .bool s2, .slice p2 k2 c2, .slice q2 l2 d2]] w fun e w' => ∃ i3 s3 p3 k3 c3 q3 l3 d3, e = .returned (.agg #[.int .i64 i3, .bool s3, .slice p3 k3 c3, .slice q3 l3 d3]) ∧ Hid (ERep w' (.agg #[.int .i64 i3, .bool s3, .slice p3 k3 c3, .slice q3 l3 d3]) (eplus x y)) ∧ Below w.heap.size w w' := by
 obtain ⟨hi, hF⟩ := h.frac
 obtain ⟨hj, hG⟩ := h'.frac
 have HH := hid (And.intro h h')
 by_cases hx0 : x.1 = 0
 ·rw [hx0] at hi
  subst hi
  by_cases hy0 : y.1 = 0
  ·rw [hy0] at hj
   subst hj
   have he : eplus x y = (0, fadd x.2 y.2) := by unfold eplus; rw [if_neg (by simp [hx0]), if_neg (by simp [hy0])]
   rw [he]
   have hfx := hx.fin hx0
   have hfy := hy.fin hy0
   have HA := hid (fun (W : World) (hW : Below w.heap.size w W) => fopen (t := fadd x.2 y.2) (FracAdd_any (.agg #[.bool s1, .slice p1 k1 c1, .slice q1 l1 d1]) (.agg #[.bool s2, .slice p2 k2 c2, .slice q2 l2 d2]) x.2.1 x.2.2.1 x.2.2.2 y.2.1 y.2.2.1 y.2.2.2 W (hF.below hW) (hG.below hW) (lt_1m4 hx.bn) (lt_1m4 hx.bd) (lt_1m4 hy.bn) (lt_1m4 hy.bd) hfx.pos hfy.pos (ht.below hW) (isFr_low hfx) (isFr_low hfy)))
   obtain ⟨r, hr⟩ : ∃ r, r = fadd x.2 y.2 := ⟨_, rfl⟩
   rw [← hr] at HA ⊢
   clear hr h h' hx hy ht hF hG hx0 hy0 he hfx hfy HH
   go_enter Tryz.func141, Tryz.ntmps141
   go_wp2_with fail
   generalize hA : World.alloc _ _ = W0
   have HV := hid (pre3_o hA nd4 nd4 nd4)
   clear hA
   refine (infinite_any 0 s1 p1 k1 c1 q1 l1 d1 W0).mono ?_
   rintro e w1 ⟨rfl, hB1⟩
   rw [show ((0 : Int) != 0) = false from rfl]
   have HE := hid hB1
   obtain ⟨u0, u1, u2, u3, _⟩ := (HV.out.1.below hB1).cells4
   obtain ⟨v0, v1, v2, v3, _⟩ := (HV.out.2.1.below hB1).cells4
   clear hB1
   go_wp2_with fail
   refine (infinite_any 0 s2 p2 k2 c2 q2 l2 d2 w1).mono ?_
   rintro e w2 ⟨rfl, hB2⟩
   rw [show ((0 : Int) != 0) = false from rfl]
   have HE2 := hid (held_any HE.out hB2)
   clear hB2 u0 u1 u2 u3 v0 v1 v2 v3
   obtain ⟨u0, u1, u2, u3, _⟩ := (HV.out.1.below HE2.out).cells4
   obtain ⟨v0, v1, v2, v3, _⟩ := (HV.out.2.1.below HE2.out).cells4
   go_wp2_with fail
   refine (HA.out w2 (HV.out.2.2.2.trans (HE2.out.mono HV.out.2.2.2.size))).mono ?_
   rintro e w3 ⟨s3, p3, k3, c3, q3, l3, d3, rfl, hF3, hB3⟩
   have HE3 := hid (held_any HE2.out hB3)
   clear hB3 u0 u1 u2 u3 v0 v1 v2 v3
   go_wp2_with fail
   refine (finite_any s3 p3 k3 c3 q3 l3 d3 w3).mono ?_
   rintro e w4 ⟨rfl, hB4⟩
   have HE4 := hid (And.intro (HV.out.2.2.1.below (held_any HE3.out hB4)) (HV.out.2.2.2.trans ((held_any HE3.out hB4).mono HV.out.2.2.2.size)))
   have HF4 := hid (hF3.out.below hB4)
   clear hB4 hF3
   obtain ⟨g0, g1, g2, g3, f0, f1, f2, f3⟩ := HE4.out.1.cells4
   go_wp2_with fail
   exact eplus_ret rfl (HE4.out.1.stores [.int .i64 0, .bool s3, .slice p3 k3 c3, .slice q3 l3 d3] rfl nd4) ⟨0, s3, p3, k3, c3, q3, l3, d3, rfl, hid (ERep.mk rfl (FNorm.stores (k := 0) (l := [.int .i64 0, .bool s3, .slice p3 k3 c3, .slice q3 l3 d3]) HF4.out HE4.out.1 nd4)), Below.stores (k := 0) (l := [.int .i64 0, .bool s3, .slice p3 k3 c3, .slice q3 l3 d3]) HE4.out.2 (by omega)⟩
  ·have he : eplus x y = y := by unfold eplus; rw [if_neg (by simp [hx0]), if_pos hy0]
   rw [he]
   have hi2 : (i2 != 0) = true := by simp [hj, hy0]
   clear h h' hx hy ht hF hG hx0 hy0 he hj
   go_enter Tryz.func141, Tryz.ntmps141
   go_wp2_with fail
   generalize hA : World.alloc _ _ = W0
   have HV := hid (pre3_o hA nd4 nd4 nd4)
   clear hA
   refine (infinite_any 0 s1 p1 k1 c1 q1 l1 d1 W0).mono ?_
   rintro e w1 ⟨rfl, hB1⟩
   rw [show ((0 : Int) != 0) = false from rfl]
   have HE := hid hB1
   obtain ⟨v0, v1, v2, v3, _⟩ := (HV.out.2.1.below hB1).cells4
   clear hB1
   go_wp2_with fail
   refine (infinite_any i2 s2 p2 k2 c2 q2 l2 d2 w1).mono ?_
   rintro e w2 ⟨rfl, hB2⟩
   rw [hi2]
   have HE4 := hid (And.intro (HV.out.2.2.1.below (held_any HE.out hB2)) (HV.out.2.2.2.trans ((held_any HE.out hB2).mono HV.out.2.2.2.size)))
   clear v0 v1 v2 v3
   obtain ⟨v0, v1, v2, v3, _⟩ := (HV.out.2.1.below (held_any HE.out hB2)).cells4
   obtain ⟨g0, g1, g2, g3, f0, f1, f2, f3⟩ := HE4.out.1.cells4
   clear hB2
   go_wp2_with fail
   exact eplus_ret rfl (HE4.out.1.stores [.int .i64 i2, .bool s2, .slice p2 k2 c2, .slice q2 l2 d2] rfl nd4) ⟨i2, s2, p2, k2, c2, q2, l2, d2, rfl, hid (ERep.stores (k := 0) (l := [.int .i64 i2, .bool s2, .slice p2 k2 c2, .slice q2 l2 d2]) (HH.out.2.below HE4.out.2) HE4.out.1 nd4), Below.stores (k := 0) (l := [.int .i64 i2, .bool s2, .slice p2 k2 c2, .slice q2 l2 d2]) HE4.out.2 (by omega)⟩
 ·have he : eplus x y = x := by unfold eplus; rw [if_pos hx0]
  rw [he]
  have hi1 : (i1 != 0) = true := by simp [hi, hx0]
  clear h h' hx hy ht hF hG hx0 he hi hj
  go_enter Tryz.func141, Tryz.ntmps141
  go_wp2_with fail
  generalize hA : World.alloc _ _ = W0
  have HV := hid (pre3_o hA nd4 nd4 nd4)
  clear hA
  refine (infinite_any i1 s1 p1 k1 c1 q1 l1 d1 W0).mono ?_
  rintro e w1 ⟨rfl, hB1⟩
  rw [hi1]
  have HE4 := hid (And.intro (HV.out.2.2.1.below hB1) (HV.out.2.2.2.trans (hB1.mono HV.out.2.2.2.size)))
  obtain ⟨v0, v1, v2, v3, _⟩ := (HV.out.1.below hB1).cells4
  obtain ⟨g0, g1, g2, g3, f0, f1, f2, f3⟩ := HE4.out.1.cells4
  clear hB1
  go_wp2_with fail
  exact eplus_ret rfl (HE4.out.1.stores [.int .i64 i1, .bool s1, .slice p1 k1 c1, .slice q1 l1 d1] rfl nd4) ⟨i1, s1, p1, k1, c1, q1, l1, d1, rfl, hid (ERep.stores (k := 0) (l := [.int .i64 i1, .bool s1, .slice p1 k1 c1, .slice q1 l1 d1]) (HH.out.1.below HE4.out.2) HE4.out.1 nd4), Below.stores (k := 0) (l := [.int .i64 i1, .bool s1, .slice p1 k1 c1, .slice q1 l1 d1]) HE4.out.2 (by omega)⟩
def erat (x : Int × Bool × Nat × Nat) : Bool × Nat × Nat := if x.1 = 0 then outF x.2 else (false, 0, 0)
def ebig (x : Int × Bool × Nat × Nat) : Bool := decide (x.1 = 0) && big x.2.2.1 x.2.2.2
theorem erat_ok (i1 : Int) (s1 : Bool) (p1 : Option Addr) (k1 c1 : Nat) (q1 : Option Addr) (l1 d1 : Nat) (x : Int × Bool × Nat × Nat) (w : World) (h : ERep w (.agg #[.int .i64 i1, .bool s1, .slice p1 k1 c1, .slice q1 l1 d1]) x) (hx : EOk 100000 x) (hb : ebig x = false) :
  Calls Tryz.prog 84 #[.agg #[.int .i64 i1, .bool s1, .slice p1 k1 c1, .slice q1 l1 d1]] w fun e w' => ∃ s2 p2 k2 c2 q2 l2 d2, e = .returned (.agg #[.bool s2, .slice p2 k2 c2, .slice q2 l2 d2]) ∧ Hid (FNorm w' (.agg #[.bool s2, .slice p2 k2 c2, .slice q2 l2 d2]) (erat x)) ∧ Below w.heap.size w w' := by
 obtain ⟨hi, hF⟩ := h.frac
 by_cases hx0 : x.1 = 0
 ·have hbg : big x.2.2.1 x.2.2.2 = false := by unfold ebig at hb; rw [decide_eq_true hx0] at hb; exact hb
  rw [hx0] at hi
  subst hi
  have he : erat x = outF x.2 := if_pos hx0
  rw [he]
  have HA := hid (fun (W : World) (hW : Below w.heap.size w W) => FracRat_open (.agg #[.bool s1, .slice p1 k1 c1, .slice q1 l1 d1]) x.2 W (hF.below hW) (lt_1g5 hx.bn) (lt_1g5 hx.bd))
  rw [hbg] at HA
  change Hid (∀ (W : World), Below w.heap.size w W → Calls _ _ _ W fun e w' => Below W.heap.size W w' ∧ FRes w' e _ (outF x.2)) at HA
  obtain ⟨r, hr⟩ : ∃ r, r = outF x.2 := ⟨_, rfl⟩
  rw [← hr] at HA ⊢
  clear hr h hx hF hx0 he hb hbg
  go_enter Tryz.func84, Tryz.ntmps84
  go_wp2_with fail
  generalize hA : World.alloc _ _ = W0
  have HV := hid (pre2_o hA nd4 nd3)
  clear hA
  refine (infinite_any 0 s1 p1 k1 c1 q1 l1 d1 W0).mono ?_
  rintro e w1 ⟨rfl, hB1⟩
  rw [show ((0 : Int) != 0) = false from rfl]
  have HE := hid hB1
  obtain ⟨u0, u1, u2, u3, _⟩ := (HV.out.1.below hB1).cells4
  clear hB1
  go_wp2_with fail
  refine (HA.out w1 (HV.out.2.2.trans (HE.out.mono HV.out.2.2.size))).mono ?_
  rintro e w2 ⟨hB2, ⟨h0, _⟩ | ⟨_, s2, p2, k2, c2, q2, l2, d2, rfl, hF2⟩⟩
  ·exact absurd rfl h0
  have HE2 := hid (held_any HE.out hB2)
  clear hB2 u0 u1 u2 u3
  go_wp2_with fail
  refine (mustR_ok s2 p2 k2 c2 q2 l2 d2 w2).mono ?_
  rintro e w3 ⟨rfl, hB3⟩
  have HE3 := hid (And.intro (HV.out.2.1.below (held_any HE2.out hB3)) (HV.out.2.2.trans ((held_any HE2.out hB3).mono HV.out.2.2.size)))
  have HF3 := hid (hF2.out.below hB3)
  clear hB3 hF2
  obtain ⟨g0, g1, g2, f0, f1, f2⟩ := HE3.out.1.cells3
  go_wp2_with fail
  exact erat_ret rfl (HE3.out.1.stores [.bool s2, .slice p2 k2 c2, .slice q2 l2 d2] rfl nd3) ⟨s2, p2, k2, c2, q2, l2, d2, rfl, hid (FNorm.stores (k := 0) (l := [.bool s2, .slice p2 k2 c2, .slice q2 l2 d2]) HF3.out HE3.out.1 nd3), Below.stores (k := 0) (l := [.bool s2, .slice p2 k2 c2, .slice q2 l2 d2]) HE3.out.2 (Nat.le_succ _)⟩
 ·have he : erat x = (false, 0, 0) := if_neg hx0
  rw [he]
  have hi1 : (i1 != 0) = true := by simp [hi, hx0]
  clear h hx hF hx0 he hi hb
  go_enter Tryz.func84, Tryz.ntmps84
  go_wp2_with fail
  generalize hA : World.alloc _ _ = W0
  have HV := hid (pre2_o hA nd4 nd3)
  clear hA
  refine (infinite_any i1 s1 p1 k1 c1 q1 l1 d1 W0).mono ?_
  rintro e w1 ⟨rfl, hB1⟩
  rw [hi1]
  have HE3 := hid (And.intro (HV.out.2.1.below hB1) (HV.out.2.2.trans (hB1.mono HV.out.2.2.size)))
  clear hB1
  obtain ⟨g0, g1, g2, f0, f1, f2⟩ := HE3.out.1.cells3
  go_wp2_with fail
  exact erat_ret rfl (HE3.out.1.stores [.bool false, .slice none 0 0, .slice none 0 0] rfl nd3) ⟨_, _, _, _, _, _, _, rfl, hid (FNorm.zero _), Below.stores (k := 0) (l := [.bool false, .slice none 0 0, .slice none 0 0]) HE3.out.2 (Nat.le_succ _)⟩
end Go.Proofs.YtheojajaefjecaaGreatDoor
