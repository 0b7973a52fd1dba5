/- The road of an operation on two intervals that rounds. The road of an operation on two intervals that rounds: both, rounded. The road of an operation on two intervals that rounds: both, rounded. -/
import Derived.Test.YtheojajaefjecaaGreatDoorSets
import Derived.Test.YtheojajaefjecaaGreatDoorAbI
set_option maxHeartbeats 4000000
set_option maxRecDepth 100000
namespace Go.Proofs.YtheojajaefjecaaGreatDoor
open Go.RowKit Dg
theorem Box.mk4 (w : World) (o o' o'' o3 : Obj) (l : List Value) (t : Nat) (h : NDs l) : Box (((((w.alloc o).alloc o').alloc o'').alloc o3).alloc (.cells l.toArray t)) (w.heap.size + 1 + 1 + 1 + 1) l.toArray := by
 have := Box.mk3 (w.alloc o) o' o'' o3 l t h
 rwa [World.size_alloc] at this
theorem pre4 (w : World) (l1 l2 l3 l4 : List Value) (t1 t2 t3 t4 : Nat) (h1 : NDs l1) (h2 : NDs l2) (h3 : NDs l3) (h4 : NDs l4) :
  let W := (((w.alloc (.cells l1.toArray t1)).alloc (.cells l2.toArray t2)).alloc (.cells l3.toArray t3)).alloc (.cells l4.toArray t4)
  Box W w.heap.size l1.toArray ∧ Box W (w.heap.size + 1) l2.toArray ∧ Box W (w.heap.size + 1 + 1) l3.toArray ∧ Box W (w.heap.size + 1 + 1 + 1) l4.toArray ∧ Below w.heap.size w W :=
 have h := pre3 w l1 l2 l3 t1 t2 t3 h1 h2 h3
 ⟨h.1.more _, h.2.1.more _, h.2.2.1.more _, Box.mk3 w _ _ _ l4 t4 h4, h.2.2.2.alloc h.2.2.2.size _⟩
theorem pre4_o {w W0 : World} {l1 l2 l3 l4 : List Value} {t1 t2 t3 t4 : Nat} (h : (((w.alloc (.cells l1.toArray t1)).alloc (.cells l2.toArray t2)).alloc (.cells l3.toArray t3)).alloc (.cells l4.toArray t4) = W0) (h1 : NDs l1) (h2 : NDs l2) (h3 : NDs l3) (h4 : NDs l4) :
    Box W0 w.heap.size l1.toArray ∧ Box W0 (w.heap.size + 1) l2.toArray ∧ Box W0 (w.heap.size + 1 + 1) l3.toArray ∧ Box W0 (w.heap.size + 1 + 1 + 1) l4.toArray ∧ Below w.heap.size w W0 := by
  subst h
  exact pre4 w l1 l2 l3 l4 t1 t2 t3 t4 h1 h2 h3 h4
theorem pre5 (w : World) (l1 l2 l3 l4 l5 : List Value) (t1 t2 t3 t4 t5 : Nat) (h1 : NDs l1) (h2 : NDs l2) (h3 : NDs l3) (h4 : NDs l4) (h5 : NDs l5) :
  let W := ((((w.alloc (.cells l1.toArray t1)).alloc (.cells l2.toArray t2)).alloc (.cells l3.toArray t3)).alloc (.cells l4.toArray t4)).alloc (.cells l5.toArray t5)
  Box W w.heap.size l1.toArray ∧ Box W (w.heap.size + 1) l2.toArray ∧ Box W (w.heap.size + 1 + 1) l3.toArray ∧ Box W (w.heap.size + 1 + 1 + 1) l4.toArray ∧ Box W (w.heap.size + 1 + 1 + 1 + 1) l5.toArray ∧ Below w.heap.size w W :=
 have h := pre4 w l1 l2 l3 l4 t1 t2 t3 t4 h1 h2 h3 h4
 ⟨h.1.more _, h.2.1.more _, h.2.2.1.more _, h.2.2.2.1.more _, Box.mk4 w _ _ _ _ l5 t5 h5, h.2.2.2.2.alloc h.2.2.2.2.size _⟩
theorem isPrecision_ok (p : Int) (h0 : 0 ≤ p) (h1 : p ≤ 128) (w : World) : Calls Tryz.prog 57 #[.int .i64 p] w fun e w' => e = .returned (.bool true) ∧ w = w' := by
 go_enter Tryz.func57, Tryz.ntmps57
 go_wp2_with fail
 go_ret
 exact ⟨rfl, rfl⟩
def Q4 (w : World) (Bo Bp : Nat) (g : FuncId) (cap : Array Value) (pi : Int) (l1 l2 : List Value) (w' : World) : Prop :=
 Box w' w.heap.size l1.toArray ∧ Box w' (w.heap.size + 1) l2.toArray ∧ Box w' Bo #[.func (.func g) #[] cap] ∧ Box w' Bp #[.int .i64 pi] ∧ Below w.heap.size w w'
theorem Q4.call {w w1 w2 : World} {Bo Bp : Nat} {g : FuncId} {cap : Array Value} {pi : Int} {l1 l2 : List Value} (h : Q4 w Bo Bp g cap pi l1 l2 w1) (hb : Below w1.heap.size w1 w2) : Q4 w Bo Bp g cap pi l1 l2 w2 :=
 ⟨h.1.below hb, h.2.1.below hb, h.2.2.1.below hb, h.2.2.2.1.below hb, h.2.2.2.2.trans (hb.mono h.2.2.2.2.size)⟩
theorem Q4.drew {w w1 : World} {Bo Bp : Nat} {g : FuncId} {cap : Array Value} {pi : Int} {l1 l2 : List Value} (h : Q4 w Bo Bp g cap pi l1 l2 w1) : Q4 w Bo Bp g cap pi l1 l2 w1.drew := h.call (Below.refl _ _).drew
theorem Q4.st9 {w w1 : World} {Bo Bp : Nat} {g : FuncId} {cap : Array Value} {pi : Int} {l1 l2 : List Value} {a b c d e f i j k : Value} (h : Q4 w Bo Bp g cap pi l1 l2 w1) (ho : Bo < w.heap.size) (hp : Bp < w.heap.size) :
  Q4 w Bo Bp g cap pi l1 l2 (((((((((w1.setCell ⟨w.heap.size + 1 + 1, 0, none⟩ a).setCell ⟨w.heap.size + 1 + 1, 1, none⟩ b).setCell ⟨w.heap.size + 1 + 1, 2, none⟩ c).setCell ⟨w.heap.size + 1 + 1, 3, none⟩ d).setCell ⟨w.heap.size + 1 + 1, 4, none⟩ e).setCell ⟨w.heap.size + 1 + 1, 5, none⟩ f).setCell ⟨w.heap.size + 1 + 1, 6, none⟩ i).setCell ⟨w.heap.size + 1 + 1, 7, none⟩ j).setCell ⟨w.heap.size + 1 + 1, 8, none⟩ k) :=
 ⟨Box.stores_other (k := 0) (l := [a, b, c, d, e, f, i, j, k]) h.1 (by omega), Box.stores_other (k := 0) (l := [a, b, c, d, e, f, i, j, k]) h.2.1 (by omega), Box.stores_other (k := 0) (l := [a, b, c, d, e, f, i, j, k]) h.2.2.1 (by omega), Box.stores_other (k := 0) (l := [a, b, c, d, e, f, i, j, k]) h.2.2.2.1 (by omega), Below.stores (k := 0) (l := [a, b, c, d, e, f, i, j, k]) h.2.2.2.2 (by omega)⟩
theorem rounded1_ret {W : World} {B : Nat} {a0 a1 a2 a3 a4 a5 a6 a7 a8 : Value} {tm : Array Value} {R : Ending → World → Prop} (h2 : tm[6]?.getD undef = .pointer (some ⟨B, 0, none⟩)) (hV : Box W B #[a0, a1, a2, a3, a4, a5, a6, a7, a8]) (hR : R (.returned (.agg #[a0, a1, a2, a3, a4, a5, a6, a7, a8])) W) :
  bodyPost Tryz.prog Tryz.f107 R .ret { tmps := tm, defers := [] } W := by
 obtain ⟨g0, g1, g2, g3, g4, g5, g6, g7, g8, _⟩ := hV.cells9
 exact bodyPost_ret (v := .agg #[a0, a1, a2, a3, a4, a5, a6, a7, a8]) (by simp [results, Tryz.results107, go_sem, h2, g0, g1, g2, g3, g4, g5, g6, g7, g8]) rfl hR
theorem rounded1_ok (i1 : Int) (s1 : Bool) (p1 : Option Addr) (k1 c1 : Nat) (q1 : Option Addr) (l1 d1 : Nat) (j1 : Int) (sz1 : Bool) (pz1 : Option Addr) (kz1 cz1 : Nat) (qz1 : Option Addr) (lz1 dz1 : Nat) (e1 : Bool) (i2 : Int) (s2 : Bool) (p2 : Option Addr) (k2 c2 : Nat) (q2 : Option Addr) (l2 d2 : Nat) (j2 : Int) (sz2 : Bool) (pz2 : Option Addr) (kz2 cz2 : Nat) (qz2 : Option Addr) (lz2 dz2 : Nat) (e2 : Bool) (Bo Bp : Nat) (g : FuncId) (cap : Array Value) (pr : Nat) (x y r : (Int × Bool × Nat × Nat) × (Int × Bool × Nat × Nat) × Bool) (w : World)
  (hBo : Box w Bo #[.func (.func g) #[] cap]) (hBp : Box w Bp #[.int .i64 (pr : Int)]) (h : SRep w (.agg #[.int .i64 i1, .bool s1, .slice p1 k1 c1, .slice q1 l1 d1, .int .i64 j1, .bool sz1, .slice pz1 kz1 cz1, .slice qz1 lz1 dz1, .bool e1]) x) (h' : SRep w (.agg #[.int .i64 i2, .bool s2, .slice p2 k2 c2, .slice q2 l2 d2, .int .i64 j2, .bool sz2, .slice pz2 kz2 cz2, .slice qz2 lz2 dz2, .bool e2]) y) (hr : EOk 1000 r.1 ∧ EOk 1000 r.2.1) (hp : pr ≤ 1000000) (ht : TabOk w)
  (hfn : ∀ args W, (callFunc g args).run Tryz.prog W = .ok (.enter g args) W)
  (hop : ∀ W, Below w.heap.size w W → SRep W (.agg #[.int .i64 i1, .bool s1, .slice p1 k1 c1, .slice q1 l1 d1, .int .i64 j1, .bool sz1, .slice pz1 kz1 cz1, .slice qz1 lz1 dz1, .bool e1]) x → SRep W (.agg #[.int .i64 i2, .bool s2, .slice p2 k2 c2, .slice q2 l2 d2, .int .i64 j2, .bool sz2, .slice pz2 kz2 cz2, .slice qz2 lz2 dz2, .bool e2]) y → Calls Tryz.prog g (#[.agg #[.int .i64 i1, .bool s1, .slice p1 k1 c1, .slice q1 l1 d1, .int .i64 j1, .bool sz1, .slice pz1 kz1 cz1, .slice qz1 lz1 dz1, .bool e1], .agg #[.int .i64 i2, .bool s2, .slice p2 k2 c2, .slice q2 l2 d2, .int .i64 j2, .bool sz2, .slice pz2 kz2 cz2, .slice qz2 lz2 dz2, .bool e2]] ++ cap) W fun e w' => ∃ i3 s3 p3 k3 c3 q3 l3 d3 j3 sz3 pz3 kz3 cz3 qz3 lz3 dz3 e3, e = .returned (.agg #[.int .i64 i3, .bool s3, .slice p3 k3 c3, .slice q3 l3 d3, .int .i64 j3, .bool sz3, .slice pz3 kz3 cz3, .slice qz3 lz3 dz3, .bool e3]) ∧ Hid (SRep w' (.agg #[.int .i64 i3, .bool s3, .slice p3 k3 c3, .slice q3 l3 d3, .int .i64 j3, .bool sz3, .slice pz3 kz3 cz3, .slice qz3 lz3 dz3, .bool e3]) r) ∧ Below W.heap.size W w') :
  Calls Tryz.prog 107 #[.agg #[.int .i64 i1, .bool s1, .slice p1 k1 c1, .slice q1 l1 d1, .int .i64 j1, .bool sz1, .slice pz1 kz1 cz1, .slice qz1 lz1 dz1, .bool e1], .agg #[.int .i64 i2, .bool s2, .slice p2 k2 c2, .slice q2 l2 d2, .int .i64 j2, .bool sz2, .slice pz2 kz2 cz2, .slice qz2 lz2 dz2, .bool e2], .pointer (some ⟨Bo, 0, none⟩), .pointer (some ⟨Bp, 0, none⟩)] w fun e w' => ∃ i3 s3 p3 k3 c3 q3 l3 d3 j3 sz3 pz3 kz3 cz3 qz3 lz3 dz3 e3, e = .returned (.agg #[.int .i64 i3, .bool s3, .slice p3 k3 c3, .slice q3 l3 d3, .int .i64 j3, .bool sz3, .slice pz3 kz3 cz3, .slice qz3 lz3 dz3, .bool e3]) ∧ Hid (SRep w' (.agg #[.int .i64 i3, .bool s3, .slice p3 k3 c3, .slice q3 l3 d3, .int .i64 j3, .bool sz3, .slice pz3 kz3 cz3, .slice qz3 lz3 dz3, .bool e3]) (sround r pr)) ∧ Below w.heap.size w w' := by
 have HO := hid (fun (W : World) (hW : Below w.heap.size w W) => hop W hW (h.below hW) (h'.below hW))
 have HR := hid (fun (W : World) (i3 : Int) (s3 : Bool) (p3 : Option Addr) (k3 c3 : Nat) (q3 : Option Addr) (l3 d3 : Nat) (j3 : Int) (sz3 : Bool) (pz3 : Option Addr) (kz3 cz3 : Nat) (qz3 : Option Addr) (lz3 dz3 : Nat) (e3 : Bool) (hW : Below w.heap.size w W) (hS : SRep W (.agg #[.int .i64 i3, .bool s3, .slice p3 k3 c3, .slice q3 l3 d3, .int .i64 j3, .bool sz3, .slice pz3 kz3 cz3, .slice qz3 lz3 dz3, .bool e3]) r) => sround_any i3 s3 p3 k3 c3 q3 l3 d3 j3 sz3 pz3 kz3 cz3 qz3 lz3 dz3 e3 pr r W hS hr hp (ht.below hW))
 obtain ⟨rr, hrr⟩ : ∃ rr, rr = sround r pr := ⟨_, rfl⟩
 rw [← hrr] at HR ⊢
 have HP := hid (And.intro hBo hBp)
 have hlo := hBo.lt
 have hlp := hBp.lt
 clear h h' hr hp ht hop hrr hBo hBp
 obtain ⟨pi, hpi⟩ : ∃ pi : Int, pi = (pr : Int) := ⟨_, rfl⟩
 rw [← hpi] at HR HP
 clear hpi
 go_enter Tryz.func107, Tryz.ntmps107
 go_wp2_with fail
 generalize hA : World.alloc _ _ = W0
 have HV := hid (pre3_o hA nd9 nd9 nd9)
 clear hA
 have HI : Hid (w.heap.size ≤ w.heap.size + 1 + 1) := hid (by omega)
 have HQ0 : Hid (Q4 w Bo Bp g cap pi [.int .i64 i1, .bool s1, .slice p1 k1 c1, .slice q1 l1 d1, .int .i64 j1, .bool sz1, .slice pz1 kz1 cz1, .slice qz1 lz1 dz1, .bool e1] [.int .i64 i2, .bool s2, .slice p2 k2 c2, .slice q2 l2 d2, .int .i64 j2, .bool sz2, .slice pz2 kz2 cz2, .slice qz2 lz2 dz2, .bool e2] W0) := hid ⟨HV.out.1, HV.out.2.1, HP.out.1.below HV.out.2.2.2, HP.out.2.below HV.out.2.2.2, HV.out.2.2.2⟩
 have HS : Hid (∀ w', Q4 w Bo Bp g cap pi [.int .i64 i1, .bool s1, .slice p1 k1 c1, .slice q1 l1 d1, .int .i64 j1, .bool sz1, .slice pz1 kz1 cz1, .slice qz1 lz1 dz1, .bool e1] [.int .i64 i2, .bool s2, .slice p2 k2 c2, .slice q2 l2 d2, .int .i64 j2, .bool sz2, .slice pz2 kz2 cz2, .slice qz2 lz2 dz2, .bool e2] w' → (w'.cell? ⟨w.heap.size, 0, none⟩ = some (.int .i64 i1) ∧ w'.cell? ⟨w.heap.size, 1, none⟩ = some (.bool s1) ∧ w'.cell? ⟨w.heap.size, 2, none⟩ = some (.slice p1 k1 c1) ∧ w'.cell? ⟨w.heap.size, 3, none⟩ = some (.slice q1 l1 d1) ∧ w'.cell? ⟨w.heap.size, 4, none⟩ = some (.int .i64 j1) ∧ w'.cell? ⟨w.heap.size, 5, none⟩ = some (.bool sz1) ∧ w'.cell? ⟨w.heap.size, 6, none⟩ = some (.slice pz1 kz1 cz1) ∧ w'.cell? ⟨w.heap.size, 7, none⟩ = some (.slice qz1 lz1 dz1) ∧ w'.cell? ⟨w.heap.size, 8, none⟩ = some (.bool e1) ∧ w'.cell? ⟨w.heap.size + 1, 0, none⟩ = some (.int .i64 i2) ∧ w'.cell? ⟨w.heap.size + 1, 1, none⟩ = some (.bool s2) ∧ w'.cell? ⟨w.heap.size + 1, 2, none⟩ = some (.slice p2 k2 c2) ∧ w'.cell? ⟨w.heap.size + 1, 3, none⟩ = some (.slice q2 l2 d2) ∧ w'.cell? ⟨w.heap.size + 1, 4, none⟩ = some (.int .i64 j2) ∧ w'.cell? ⟨w.heap.size + 1, 5, none⟩ = some (.bool sz2) ∧ w'.cell? ⟨w.heap.size + 1, 6, none⟩ = some (.slice pz2 kz2 cz2) ∧ w'.cell? ⟨w.heap.size + 1, 7, none⟩ = some (.slice qz2 lz2 dz2) ∧ w'.cell? ⟨w.heap.size + 1, 8, none⟩ = some (.bool e2) ∧ w'.cell? ⟨Bo, 0, none⟩ = some (.func (.func g) #[] cap) ∧ w'.cell? ⟨Bp, 0, none⟩ = some (.int .i64 pi) ∧ Hid (Q4 w Bo Bp g cap pi [.int .i64 i1, .bool s1, .slice p1 k1 c1, .slice q1 l1 d1, .int .i64 j1, .bool sz1, .slice pz1 kz1 cz1, .slice qz1 lz1 dz1, .bool e1] [.int .i64 i2, .bool s2, .slice p2 k2 c2, .slice q2 l2 d2, .int .i64 j2, .bool sz2, .slice pz2 kz2 cz2, .slice qz2 lz2 dz2, .bool e2] w'))) :=
  hid fun w' hb => ⟨(hb.1.cells9).1, (hb.1.cells9).2.1, (hb.1.cells9).2.2.1, (hb.1.cells9).2.2.2.1, (hb.1.cells9).2.2.2.2.1, (hb.1.cells9).2.2.2.2.2.1, (hb.1.cells9).2.2.2.2.2.2.1, (hb.1.cells9).2.2.2.2.2.2.2.1, (hb.1.cells9).2.2.2.2.2.2.2.2.1, (hb.2.1.cells9).1, (hb.2.1.cells9).2.1, (hb.2.1.cells9).2.2.1, (hb.2.1.cells9).2.2.2.1, (hb.2.1.cells9).2.2.2.2.1, (hb.2.1.cells9).2.2.2.2.2.1, (hb.2.1.cells9).2.2.2.2.2.2.1, (hb.2.1.cells9).2.2.2.2.2.2.2.1, (hb.2.1.cells9).2.2.2.2.2.2.2.2.1, hb.2.2.1.cells1.1, hb.2.2.2.1.cells1.1, hid hb⟩
 go_region_held3 (fun w' => w'.cell? ⟨w.heap.size, 0, none⟩ = some (.int .i64 i1) ∧ w'.cell? ⟨w.heap.size, 1, none⟩ = some (.bool s1) ∧ w'.cell? ⟨w.heap.size, 2, none⟩ = some (.slice p1 k1 c1) ∧ w'.cell? ⟨w.heap.size, 3, none⟩ = some (.slice q1 l1 d1) ∧ w'.cell? ⟨w.heap.size, 4, none⟩ = some (.int .i64 j1) ∧ w'.cell? ⟨w.heap.size, 5, none⟩ = some (.bool sz1) ∧ w'.cell? ⟨w.heap.size, 6, none⟩ = some (.slice pz1 kz1 cz1) ∧ w'.cell? ⟨w.heap.size, 7, none⟩ = some (.slice qz1 lz1 dz1) ∧ w'.cell? ⟨w.heap.size, 8, none⟩ = some (.bool e1) ∧ w'.cell? ⟨w.heap.size + 1, 0, none⟩ = some (.int .i64 i2) ∧ w'.cell? ⟨w.heap.size + 1, 1, none⟩ = some (.bool s2) ∧ w'.cell? ⟨w.heap.size + 1, 2, none⟩ = some (.slice p2 k2 c2) ∧ w'.cell? ⟨w.heap.size + 1, 3, none⟩ = some (.slice q2 l2 d2) ∧ w'.cell? ⟨w.heap.size + 1, 4, none⟩ = some (.int .i64 j2) ∧ w'.cell? ⟨w.heap.size + 1, 5, none⟩ = some (.bool sz2) ∧ w'.cell? ⟨w.heap.size + 1, 6, none⟩ = some (.slice pz2 kz2 cz2) ∧ w'.cell? ⟨w.heap.size + 1, 7, none⟩ = some (.slice qz2 lz2 dz2) ∧ w'.cell? ⟨w.heap.size + 1, 8, none⟩ = some (.bool e2) ∧ w'.cell? ⟨Bo, 0, none⟩ = some (.func (.func g) #[] cap) ∧ w'.cell? ⟨Bp, 0, none⟩ = some (.int .i64 pi) ∧ Hid (Q4 w Bo Bp g cap pi [.int .i64 i1, .bool s1, .slice p1 k1 c1, .slice q1 l1 d1, .int .i64 j1, .bool sz1, .slice pz1 kz1 cz1, .slice qz1 lz1 dz1, .bool e1] [.int .i64 i2, .bool s2, .slice p2 k2 c2, .slice q2 l2 d2, .int .i64 j2, .bool sz2, .slice pz2 kz2 cz2, .slice qz2 lz2 dz2, .bool e2] w'))
  (first | (refine HS.out _ ?_; first | (with_reducible exact HQ0.out.drew) | (with_reducible assumption) | (with_reducible refine Q4.st9 ?_ (by omega) (by omega); assumption)))
  (first
   | (refine (HO.out _ HQ0.out.drew.2.2.2.2).mono ?_; rintro e wa ⟨i4, s4, p4, k4, c4, q4, l4, d4, j4, sz4, pz4, kz4, cz4, qz4, lz4, dz4, e4, rfl, hE1, hB1⟩; have hQ1 := HQ0.out.drew.call hB1; have hV1 := (HV.out.2.2.1.drew).below hB1)
   | (go_at_call 61; refine (HR.out _ i4 s4 p4 k4 c4 q4 l4 d4 j4 sz4 pz4 kz4 cz4 qz4 lz4 dz4 e4 hQ1.2.2.2.2 hE1.out).mono ?_; rintro e wb ⟨i5, s5, p5, k5, c5, q5, l5, d5, j5, sz5, pz5, kz5, cz5, qz5, lz5, dz5, e5, rfl, hE2, hB2⟩; have hQ2 := hQ1.call hB2; have hV2 := hV1.below hB2; obtain ⟨g0, g1, g2, g3, g4, g5, g6, g7, g8, f0, f1, f2, f3, f4, f5, f6, f7, f8⟩ := hV2.cells9))
 rename_i hHeld
 clear hHeld
 have HE := hid (And.intro hV2 (And.intro hE2.out hQ2.2.2.2.2))
 clear hQ1 hQ2 hV1 hV2 hB1 hB2 hE1 hE2
 go_wp2_with fail
 exact rounded1_ret rfl (HE.out.1.stores [.int .i64 i5, .bool s5, .slice p5 k5 c5, .slice q5 l5 d5, .int .i64 j5, .bool sz5, .slice pz5 kz5 cz5, .slice qz5 lz5 dz5, .bool e5] rfl nd9) ⟨i5, s5, p5, k5, c5, q5, l5, d5, j5, sz5, pz5, kz5, cz5, qz5, lz5, dz5, e5, rfl, hid (SRep.stores (k := 0) (l := [.int .i64 i5, .bool s5, .slice p5 k5 c5, .slice q5 l5 d5, .int .i64 j5, .bool sz5, .slice pz5 kz5 cz5, .slice qz5 lz5 dz5, .bool e5]) HE.out.2.1 HE.out.1 nd9), Below.stores (k := 0) (l := [.int .i64 i5, .bool s5, .slice p5 k5 c5, .slice q5 l5 d5, .int .i64 j5, .bool sz5, .slice pz5 kz5 cz5, .slice qz5 lz5 dz5, .bool e5]) HE.out.2.2 HI.out⟩
end Go.Proofs.YtheojajaefjecaaGreatDoor
namespace Go.Proofs.YtheojajaefjecaaGreatDoor
open Go.RowKit Dg
theorem both1_ret {W : World} {B : Nat} {a0 a1 a2 a3 a4 a5 a6 a7 : Value} {tm : Array Value} {R : Ending → World → Prop} (h2 : tm[6]?.getD undef = .pointer (some ⟨B, 0, none⟩)) (hV : Box W B #[a0, a1, a2, a3, a4, a5, a6, a7]) (hR : R (.returned (.agg #[a0, a1, a2, a3, a4, a5, a6, a7])) W) :
  bodyPost Tryz.prog Tryz.f168 R .ret { tmps := tm, defers := [] } W := by
 obtain ⟨g0, g1, g2, g3, g4, g5, g6, g7, _⟩ := hV.cells8
 exact bodyPost_ret (v := .agg #[a0, a1, a2, a3, a4, a5, a6, a7]) (by simp [results, Tryz.results168, go_sem, h2, g0, g1, g2, g3, g4, g5, g6, g7]) rfl hR
theorem both1_ok (i1 : Int) (s1 : Bool) (p1 : Option Addr) (k1 c1 : Nat) (q1 : Option Addr) (l1 d1 : Nat) (j1 : Int) (sz1 : Bool) (pz1 : Option Addr) (kz1 cz1 : Nat) (qz1 : Option Addr) (lz1 dz1 : Nat) (e1 : Bool) (i2 : Int) (s2 : Bool) (p2 : Option Addr) (k2 c2 : Nat) (q2 : Option Addr) (l2 d2 : Nat) (j2 : Int) (sz2 : Bool) (pz2 : Option Addr) (kz2 cz2 : Nat) (qz2 : Option Addr) (lz2 dz2 : Nat) (e2 : Bool) (Bv Bo : Nat) (g : FuncId) (cap : Array Value) (x y r : (Int × Bool × Nat × Nat) × (Int × Bool × Nat × Nat) × Bool) (w : World)
  (hBv : Box w Bv #[.bool true]) (hBo : Box w Bo #[.func (.func g) #[] cap]) (h : SRep w (.agg #[.int .i64 i1, .bool s1, .slice p1 k1 c1, .slice q1 l1 d1, .int .i64 j1, .bool sz1, .slice pz1 kz1 cz1, .slice qz1 lz1 dz1, .bool e1]) x) (h' : SRep w (.agg #[.int .i64 i2, .bool s2, .slice p2 k2 c2, .slice q2 l2 d2, .int .i64 j2, .bool sz2, .slice pz2 kz2 cz2, .slice qz2 lz2 dz2, .bool e2]) y) (hx : x.2.2 = false) (hy : y.2.2 = false)
  (hr : EOk 100000 r.1 ∧ EOk 100000 r.2.1) (hb : ebig r.1 = false ∧ ebig r.2.1 = false) (he : r.2.2 = false)
  (hfn : ∀ args W, (callFunc g args).run Tryz.prog W = .ok (.enter g args) W)
  (hop : ∀ W, Below w.heap.size w W → SRep W (.agg #[.int .i64 i1, .bool s1, .slice p1 k1 c1, .slice q1 l1 d1, .int .i64 j1, .bool sz1, .slice pz1 kz1 cz1, .slice qz1 lz1 dz1, .bool e1]) x → SRep W (.agg #[.int .i64 i2, .bool s2, .slice p2 k2 c2, .slice q2 l2 d2, .int .i64 j2, .bool sz2, .slice pz2 kz2 cz2, .slice qz2 lz2 dz2, .bool e2]) y → Calls Tryz.prog g (#[.agg #[.int .i64 i1, .bool s1, .slice p1 k1 c1, .slice q1 l1 d1, .int .i64 j1, .bool sz1, .slice pz1 kz1 cz1, .slice qz1 lz1 dz1, .bool e1], .agg #[.int .i64 i2, .bool s2, .slice p2 k2 c2, .slice q2 l2 d2, .int .i64 j2, .bool sz2, .slice pz2 kz2 cz2, .slice qz2 lz2 dz2, .bool e2]] ++ cap) W fun e w' => ∃ i3 s3 p3 k3 c3 q3 l3 d3 j3 sz3 pz3 kz3 cz3 qz3 lz3 dz3 e3, e = .returned (.agg #[.int .i64 i3, .bool s3, .slice p3 k3 c3, .slice q3 l3 d3, .int .i64 j3, .bool sz3, .slice pz3 kz3 cz3, .slice qz3 lz3 dz3, .bool e3]) ∧ Hid (SRep w' (.agg #[.int .i64 i3, .bool s3, .slice p3 k3 c3, .slice q3 l3 d3, .int .i64 j3, .bool sz3, .slice pz3 kz3 cz3, .slice qz3 lz3 dz3, .bool e3]) r) ∧ Below W.heap.size W w') :
  Calls Tryz.prog 168 #[.agg #[.int .i64 i1, .bool s1, .slice p1 k1 c1, .slice q1 l1 d1, .int .i64 j1, .bool sz1, .slice pz1 kz1 cz1, .slice qz1 lz1 dz1, .bool e1], .agg #[.int .i64 i2, .bool s2, .slice p2 k2 c2, .slice q2 l2 d2, .int .i64 j2, .bool sz2, .slice pz2 kz2 cz2, .slice qz2 lz2 dz2, .bool e2], .pointer (some ⟨Bv, 0, none⟩), .pointer (some ⟨Bo, 0, none⟩)] w fun e w' => ∃ s3 p3 k3 c3 q3 l3 d3 sz3 pz3 kz3 cz3 qz3 lz3 dz3 x3 y3, e = .returned (.agg #[.bool s3, .slice p3 k3 c3, .slice q3 l3 d3, .bool sz3, .slice pz3 kz3 cz3, .slice qz3 lz3 dz3, .bool x3, .bool y3]) ∧ Hid (GRep w' (.agg #[.bool s3, .slice p3 k3 c3, .slice q3 l3 d3, .bool sz3, .slice pz3 kz3 cz3, .slice qz3 lz3 dz3, .bool x3, .bool y3]) (giv r)) ∧ Below w.heap.size w w' := by
 have HO := hid (fun (W : World) (hW : Below w.heap.size w W) => hop W hW (h.below hW) (h'.below hW))
 have HI := hid (fun (W : World) (i3 : Int) (s3 : Bool) (p3 : Option Addr) (k3 c3 : Nat) (q3 : Option Addr) (l3 d3 : Nat) (j3 : Int) (sz3 : Bool) (pz3 : Option Addr) (kz3 cz3 : Nat) (qz3 : Option Addr) (lz3 dz3 : Nat) (e3 : Bool) (hS : SRep W (.agg #[.int .i64 i3, .bool s3, .slice p3 k3 c3, .slice q3 l3 d3, .int .i64 j3, .bool sz3, .slice pz3 kz3 cz3, .slice qz3 lz3 dz3, .bool e3]) r) => siv_ok i3 s3 p3 k3 c3 q3 l3 d3 j3 sz3 pz3 kz3 cz3 qz3 lz3 dz3 e3 r W hS hr hb he)
 have e1' := h.ends.2.2
 have e2' := h'.ends.2.2
 rw [hx] at e1'
 rw [hy] at e2'
 subst e1' e2'
 obtain ⟨D, hD⟩ : ∃ D, D = giv r := ⟨_, rfl⟩
 rw [← hD] at HI ⊢
 have HP := hid (And.intro hBv hBo)
 have hlo := hBo.lt
 have hlv := hBv.lt
 clear h h' hx hy hr hb he hop hD hBv hBo
 go_enter Tryz.func168, Tryz.ntmps168
 go_upto_region 1 with fail
 generalize hA : World.alloc _ _ = W0
 have HV := hid (pre3_o hA nd9 nd9 nd8)
 clear hA
 obtain ⟨t0, _⟩ := (HP.out.1.below HV.out.2.2.2).cells1
 go_wp2_with fail
 refine (unless_ok 2 W0).mono ?_
 rintro e w1 ⟨rfl, rfl⟩
 clear t0
 obtain ⟨t0, _⟩ := (HP.out.2.below HV.out.2.2.2).cells1
 obtain ⟨m0, m1, m2, m3, m4, m5, m6, m7, m8, _⟩ := HV.out.1.cells9
 obtain ⟨n0, n1, n2, n3, n4, n5, n6, n7, n8, _⟩ := HV.out.2.1.cells9
 go_wp2_with fail
 refine (HO.out _ HV.out.2.2.2).mono ?_
 rintro e w2 ⟨i3, s3, p3, k3, c3, q3, l3, d3, j3, sz3, pz3, kz3, cz3, qz3, lz3, dz3, e3, rfl, hS, hB2⟩
 have HB2 := hid hB2
 clear hB2 t0 m0 m1 m2 m3 m4 m5 m6 m7 m8 n0 n1 n2 n3 n4 n5 n6 n7 n8
 go_wp2_with fail
 refine (HI.out w2 i3 s3 p3 k3 c3 q3 l3 d3 j3 sz3 pz3 kz3 cz3 qz3 lz3 dz3 e3 hS.out).mono ?_
 rintro e w3 ⟨s4, p4, k4, c4, q4, l4, d4, sz4, pz4, kz4, cz4, qz4, lz4, dz4, x4, y4, rfl, hG, hB3⟩
 have HE := hid (And.intro (HV.out.2.2.1.below (held_any HB2.out hB3)) (HV.out.2.2.2.trans ((held_any HB2.out hB3).mono HV.out.2.2.2.size)))
 clear hB3
 obtain ⟨g0, g1, g2, g3, g4, g5, g6, g7, f0, f1, f2, f3, f4, f5, f6, f7⟩ := HE.out.1.cells8
 go_wp2_with fail
 exact both1_ret rfl (HE.out.1.stores [.bool s4, .slice p4 k4 c4, .slice q4 l4 d4, .bool sz4, .slice pz4 kz4 cz4, .slice qz4 lz4 dz4, .bool x4, .bool y4] rfl nd8) ⟨s4, p4, k4, c4, q4, l4, d4, sz4, pz4, kz4, cz4, qz4, lz4, dz4, x4, y4, rfl, hid (GRep.stores (k := 0) (l := [.bool s4, .slice p4 k4 c4, .slice q4 l4 d4, .bool sz4, .slice pz4 kz4 cz4, .slice qz4 lz4 dz4, .bool x4, .bool y4]) hG.out HE.out.1 nd8), Below.stores (k := 0) (l := [.bool s4, .slice p4 k4 c4, .slice q4 l4 d4, .bool sz4, .slice pz4 kz4 cz4, .slice qz4 lz4 dz4, .bool x4, .bool y4]) HE.out.2 (by omega)⟩
theorem enter_askBothI1 (args : Array Value) (w : World) : (callFunc 211 args).run Tryz.prog w = .ok (.enter 211 args) w := call_enter Tryz.func211 (by kernel_rfl) rfl args w
theorem enter_both1 (args : Array Value) (w : World) : (callFunc 168 args).run Tryz.prog w = .ok (.enter 168 args) w := call_enter Tryz.func168 (by kernel_rfl) rfl args w
theorem enter_rounded1 (args : Array Value) (w : World) : (callFunc 107 args).run Tryz.prog w = .ok (.enter 107 args) w := call_enter Tryz.func107 (by kernel_rfl) rfl args w
theorem askBothI_ret {W : World} {B : Nat} {a0 a1 a2 a3 a4 a5 a6 a7 ev : Value} {tm : Array Value} {R : Ending → World → Prop} (h2 : tm[6]?.getD undef = .pointer (some ⟨B, 0, none⟩)) (h3 : tm[7]?.getD undef = ev) (hV : Box W B #[a0, a1, a2, a3, a4, a5, a6, a7]) (hR : R (.returned (.tuple #[.agg #[a0, a1, a2, a3, a4, a5, a6, a7], ev])) W) :
  bodyPost Tryz.prog Tryz.f167 R .ret { tmps := tm, defers := [] } W := by
 obtain ⟨g0, g1, g2, g3, g4, g5, g6, g7, _⟩ := hV.cells8
 exact bodyPost_ret (v := .tuple #[.agg #[a0, a1, a2, a3, a4, a5, a6, a7], ev]) (by simp [results, Tryz.results167, go_sem, h2, h3, g0, g1, g2, g3, g4, g5, g6, g7]) rfl hR
theorem askBothI_ok (s1 : Bool) (p1 : Option Addr) (k1 c1 : Nat) (q1 : Option Addr) (l1 d1 : Nat) (sz1 : Bool) (pz1 : Option Addr) (kz1 cz1 : Nat) (qz1 : Option Addr) (lz1 dz1 : Nat) (x1 : Bool) (y1 : Bool) (s2 : Bool) (p2 : Option Addr) (k2 c2 : Nat) (q2 : Option Addr) (l2 d2 : Nat) (sz2 : Bool) (pz2 : Option Addr) (kz2 cz2 : Nat) (qz2 : Option Addr) (lz2 dz2 : Nat) (x2 : Bool) (y2 : Bool) (g : FuncId) (cap : Array Value) (a b a' b' : Bool × Nat × Nat) (D : (Bool × Nat × Nat) × (Bool × Nat × Nat) × Bool × Bool) (w : World)
  (ha : NRep w (.agg #[.bool s1, .slice p1 k1 c1, .slice q1 l1 d1]) a) (hb : NRep w (.agg #[.bool sz1, .slice pz1 kz1 cz1, .slice qz1 lz1 dz1]) b) (ha' : NRep w (.agg #[.bool s2, .slice p2 k2 c2, .slice q2 l2 d2]) a') (hb' : NRep w (.agg #[.bool sz2, .slice pz2 kz2 cz2, .slice qz2 lz2 dz2]) b')
  (h1 : large a.2.1 a.2.2 = false) (h2 : large b.2.1 b.2.2 = false) (h3 : large a'.2.1 a'.2.2 = false) (h4 : large b'.2.1 b'.2.2 = false) (ht : TabOk w)
  (hfn : ∀ args W, (callFunc g args).run Tryz.prog W = .ok (.enter g args) W)
  (hop : ∀ W (i3 : Int) (s3 : Bool) (p3 : Option Addr) (k3 c3 : Nat) (q3 : Option Addr) (l3 d3 : Nat) (j3 : Int) (sz3 : Bool) (pz3 : Option Addr) (kz3 cz3 : Nat) (qz3 : Option Addr) (lz3 dz3 : Nat) (e3 : Bool) (i4 : Int) (s4 : Bool) (p4 : Option Addr) (k4 c4 : Nat) (q4 : Option Addr) (l4 d4 : Nat) (j4 : Int) (sz4 : Bool) (pz4 : Option Addr) (kz4 cz4 : Nat) (qz4 : Option Addr) (lz4 dz4 : Nat) (e4 : Bool), Below w.heap.size w W → SRep W (.agg #[.int .i64 i3, .bool s3, .slice p3 k3 c3, .slice q3 l3 d3, .int .i64 j3, .bool sz3, .slice pz3 kz3 cz3, .slice qz3 lz3 dz3, .bool e3]) (srd (a, b, x1, y1)) → SRep W (.agg #[.int .i64 i4, .bool s4, .slice p4 k4 c4, .slice q4 l4 d4, .int .i64 j4, .bool sz4, .slice pz4 kz4 cz4, .slice qz4 lz4 dz4, .bool e4]) (srd (a', b', x2, y2)) → Calls Tryz.prog g (#[.agg #[.int .i64 i3, .bool s3, .slice p3 k3 c3, .slice q3 l3 d3, .int .i64 j3, .bool sz3, .slice pz3 kz3 cz3, .slice qz3 lz3 dz3, .bool e3], .agg #[.int .i64 i4, .bool s4, .slice p4 k4 c4, .slice q4 l4 d4, .int .i64 j4, .bool sz4, .slice pz4 kz4 cz4, .slice qz4 lz4 dz4, .bool e4]] ++ cap) W fun e w' => ∃ s5 p5 k5 c5 q5 l5 d5 sz5 pz5 kz5 cz5 qz5 lz5 dz5 x5 y5, e = .returned (.agg #[.bool s5, .slice p5 k5 c5, .slice q5 l5 d5, .bool sz5, .slice pz5 kz5 cz5, .slice qz5 lz5 dz5, .bool x5, .bool y5]) ∧ Hid (GRep w' (.agg #[.bool s5, .slice p5 k5 c5, .slice q5 l5 d5, .bool sz5, .slice pz5 kz5 cz5, .slice qz5 lz5 dz5, .bool x5, .bool y5]) D) ∧ Below W.heap.size W w') :
  Calls Tryz.prog 167 #[.agg #[.bool s1, .slice p1 k1 c1, .slice q1 l1 d1, .bool sz1, .slice pz1 kz1 cz1, .slice qz1 lz1 dz1, .bool x1, .bool y1], .agg #[.bool s2, .slice p2 k2 c2, .slice q2 l2 d2, .bool sz2, .slice pz2 kz2 cz2, .slice qz2 lz2 dz2, .bool x2, .bool y2], .func (.func g) #[] cap] w fun e w' => ∃ s5 p5 k5 c5 q5 l5 d5 sz5 pz5 kz5 cz5 qz5 lz5 dz5 x5 y5, e = .returned (.tuple #[.agg #[.bool s5, .slice p5 k5 c5, .slice q5 l5 d5, .bool sz5, .slice pz5 kz5 cz5, .slice qz5 lz5 dz5, .bool x5, .bool y5], .int .i64 0]) ∧ Hid (GRep w' (.agg #[.bool s5, .slice p5 k5 c5, .slice q5 l5 d5, .bool sz5, .slice pz5 kz5 cz5, .slice qz5 lz5 dz5, .bool x5, .bool y5]) D) ∧ Below w.heap.size w w' := by
 have hmf := makeFunc_run
 have HC := hid (fun (W : World) (hW : Below w.heap.size w W) (b1 : Box W w.heap.size #[.bool s1, .slice p1 k1 c1, .slice q1 l1 d1, .bool sz1, .slice pz1 kz1 cz1, .slice qz1 lz1 dz1, .bool x1, .bool y1]) (b2 : Box W (w.heap.size + 1) #[.bool s2, .slice p2 k2 c2, .slice q2 l2 d2, .bool sz2, .slice pz2 kz2 cz2, .slice qz2 lz2 dz2, .bool x2, .bool y2]) (b3 : Box W (w.heap.size + 1 + 1) #[.func (.func g) #[] cap]) =>
  finI_ok 211 #[.pointer (some ⟨w.heap.size, 0, none⟩), .pointer (some ⟨w.heap.size + 1, 0, none⟩), .pointer (some ⟨w.heap.size + 1 + 1, 0, none⟩)] D W enter_askBothI1
   (fun W' hW' => askBothI1_ok w.heap.size (w.heap.size + 1) (w.heap.size + 1 + 1) s1 p1 k1 c1 q1 l1 d1 sz1 pz1 kz1 cz1 qz1 lz1 dz1 x1 y1 s2 p2 k2 c2 q2 l2 d2 sz2 pz2 kz2 cz2 qz2 lz2 dz2 x2 y2 g cap a b a' b' D W' (b1.below hW') (b2.below hW') (b3.below hW')
    ((ha.below hW).below hW') ((hb.below hW).below hW') ((ha'.below hW).below hW') ((hb'.below hW).below hW') h1 h2 h3 h4 ((ht.below hW).below hW') hfn
    (fun W2 i3 s3 p3 k3 c3 q3 l3 d3 j3 sz3 pz3 kz3 cz3 qz3 lz3 dz3 e3 i4 s4 p4 k4 c4 q4 l4 d4 j4 sz4 pz4 kz4 cz4 qz4 lz4 dz4 e4 h5 => hop W2 i3 s3 p3 k3 c3 q3 l3 d3 j3 sz3 pz3 kz3 cz3 qz3 lz3 dz3 e3 i4 s4 p4 k4 c4 q4 l4 d4 j4 sz4 pz4 kz4 cz4 qz4 lz4 dz4 e4 (hW.trans ((hW'.trans (h5.mono hW'.size)).mono hW.size)))))
 clear ha hb ha' hb' h1 h2 h3 h4 ht hop hfn
 go_enter Tryz.func167, Tryz.ntmps167
 go_wp2_with fail
 have HV := hid (pre4 w [.bool s1, .slice p1 k1 c1, .slice q1 l1 d1, .bool sz1, .slice pz1 kz1 cz1, .slice qz1 lz1 dz1, .bool x1, .bool y1] [.bool s2, .slice p2 k2 c2, .slice q2 l2 d2, .bool sz2, .slice pz2 kz2 cz2, .slice qz2 lz2 dz2, .bool x2, .bool y2] [.func (.func g) #[] cap] [.bool false, .slice none 0 0, .slice none 0 0, .bool false, .slice none 0 0, .slice none 0 0, .bool false, .bool false] 26 26 157 26 nd8 nd8 nd1 nd8)
 generalize (((w.alloc (.cells #[.bool s1, .slice p1 k1 c1, .slice q1 l1 d1, .bool sz1, .slice pz1 kz1 cz1, .slice qz1 lz1 dz1, .bool x1, .bool y1] 26)).alloc (.cells #[.bool s2, .slice p2 k2 c2, .slice q2 l2 d2, .bool sz2, .slice pz2 kz2 cz2, .slice qz2 lz2 dz2, .bool x2, .bool y2] 26)).alloc (.cells #[.func (.func g) #[] cap] 157)).alloc (.cells #[.bool false, .slice none 0 0, .slice none 0 0, .bool false, .slice none 0 0, .slice none 0 0, .bool false, .bool false] 26) = W0 at *
 refine (HC.out _ HV.out.2.2.2.2 HV.out.1 HV.out.2.1 HV.out.2.2.1).mono ?_
 rintro e w1 ⟨s5, p5, k5, c5, q5, l5, d5, sz5, pz5, kz5, cz5, qz5, lz5, dz5, x5, y5, rfl, hG, hB1⟩
 have HE := hid (And.intro (HV.out.2.2.2.1.below hB1) (HV.out.2.2.2.2.trans (hB1.mono HV.out.2.2.2.2.size)))
 clear hB1
 obtain ⟨g0, g1, g2, g3, g4, g5, g6, g7, f0, f1, f2, f3, f4, f5, f6, f7⟩ := HE.out.1.cells8
 go_wp2_with fail
 exact askBothI_ret rfl rfl (HE.out.1.stores [.bool s5, .slice p5 k5 c5, .slice q5 l5 d5, .bool sz5, .slice pz5 kz5 cz5, .slice qz5 lz5 dz5, .bool x5, .bool y5] rfl nd8) ⟨s5, p5, k5, c5, q5, l5, d5, sz5, pz5, kz5, cz5, qz5, lz5, dz5, x5, y5, rfl, hid (GRep.stores (k := 0) (l := [.bool s5, .slice p5 k5 c5, .slice q5 l5 d5, .bool sz5, .slice pz5 kz5 cz5, .slice qz5 lz5 dz5, .bool x5, .bool y5]) hG.out HE.out.1 nd8), Below.stores (k := 0) (l := [.bool s5, .slice p5 k5 c5, .slice q5 l5 d5, .bool sz5, .slice pz5 kz5 cz5, .slice qz5 lz5 dz5, .bool x5, .bool y5]) HE.out.2 (by omega)⟩
end Go.Proofs.YtheojajaefjecaaGreatDoor
namespace Go.Proofs.YtheojajaefjecaaGreatDoor
open Go.RowKit Dg
theorem both_ret {W : World} {B : Nat} {a0 a1 a2 a3 a4 a5 a6 a7 ev : Value} {tm : Array Value} {R : Ending → World → Prop} (h2 : tm[8]?.getD undef = .pointer (some ⟨B, 0, none⟩)) (h3 : tm[9]?.getD undef = ev) (hV : Box W B #[a0, a1, a2, a3, a4, a5, a6, a7]) (hR : R (.returned (.tuple #[.agg #[a0, a1, a2, a3, a4, a5, a6, a7], ev])) W) :
  bodyPost Tryz.prog Tryz.f106 R .ret { tmps := tm, defers := [] } W := by
 obtain ⟨g0, g1, g2, g3, g4, g5, g6, g7, _⟩ := hV.cells8
 exact bodyPost_ret (v := .tuple #[.agg #[a0, a1, a2, a3, a4, a5, a6, a7], ev]) (by simp [results, Tryz.results106, go_sem, h2, h3, g0, g1, g2, g3, g4, g5, g6, g7]) rfl hR
theorem both_ok (s1 : Bool) (p1 : Option Addr) (k1 c1 : Nat) (q1 : Option Addr) (l1 d1 : Nat) (sz1 : Bool) (pz1 : Option Addr) (kz1 cz1 : Nat) (qz1 : Option Addr) (lz1 dz1 : Nat) (x1 : Bool) (y1 : Bool) (s2 : Bool) (p2 : Option Addr) (k2 c2 : Nat) (q2 : Option Addr) (l2 d2 : Nat) (sz2 : Bool) (pz2 : Option Addr) (kz2 cz2 : Nat) (qz2 : Option Addr) (lz2 dz2 : Nat) (x2 : Bool) (y2 : Bool) (g : FuncId) (cap : Array Value) (a b a' b' : Bool × Nat × Nat) (r : (Int × Bool × Nat × Nat) × (Int × Bool × Nat × Nat) × Bool) (w : World)
  (ha : NRep w (.agg #[.bool s1, .slice p1 k1 c1, .slice q1 l1 d1]) a) (hb : NRep w (.agg #[.bool sz1, .slice pz1 kz1 cz1, .slice qz1 lz1 dz1]) b) (ha' : NRep w (.agg #[.bool s2, .slice p2 k2 c2, .slice q2 l2 d2]) a') (hb' : NRep w (.agg #[.bool sz2, .slice pz2 kz2 cz2, .slice qz2 lz2 dz2]) b')
  (h1 : large a.2.1 a.2.2 = false) (h2 : large b.2.1 b.2.2 = false) (h3 : large a'.2.1 a'.2.2 = false) (h4 : large b'.2.1 b'.2.2 = false) (ht : TabOk w)
  (hx : (srd (a, b, x1, y1)).2.2 = false) (hy : (srd (a', b', x2, y2)).2.2 = false)
  (hr : EOk 100000 r.1 ∧ EOk 100000 r.2.1) (hbg : ebig r.1 = false ∧ ebig r.2.1 = false) (he : r.2.2 = false)
  (hfn : ∀ args W, (callFunc g args).run Tryz.prog W = .ok (.enter g args) W)
  (hop : ∀ W (i3 : Int) (s3 : Bool) (p3 : Option Addr) (k3 c3 : Nat) (q3 : Option Addr) (l3 d3 : Nat) (j3 : Int) (sz3 : Bool) (pz3 : Option Addr) (kz3 cz3 : Nat) (qz3 : Option Addr) (lz3 dz3 : Nat) (e3 : Bool) (i4 : Int) (s4 : Bool) (p4 : Option Addr) (k4 c4 : Nat) (q4 : Option Addr) (l4 d4 : Nat) (j4 : Int) (sz4 : Bool) (pz4 : Option Addr) (kz4 cz4 : Nat) (qz4 : Option Addr) (lz4 dz4 : Nat) (e4 : Bool), Below w.heap.size w W → SRep W (.agg #[.int .i64 i3, .bool s3, .slice p3 k3 c3, .slice q3 l3 d3, .int .i64 j3, .bool sz3, .slice pz3 kz3 cz3, .slice qz3 lz3 dz3, .bool e3]) (srd (a, b, x1, y1)) → SRep W (.agg #[.int .i64 i4, .bool s4, .slice p4 k4 c4, .slice q4 l4 d4, .int .i64 j4, .bool sz4, .slice pz4 kz4 cz4, .slice qz4 lz4 dz4, .bool e4]) (srd (a', b', x2, y2)) → Calls Tryz.prog g (#[.agg #[.int .i64 i3, .bool s3, .slice p3 k3 c3, .slice q3 l3 d3, .int .i64 j3, .bool sz3, .slice pz3 kz3 cz3, .slice qz3 lz3 dz3, .bool e3], .agg #[.int .i64 i4, .bool s4, .slice p4 k4 c4, .slice q4 l4 d4, .int .i64 j4, .bool sz4, .slice pz4 kz4 cz4, .slice qz4 lz4 dz4, .bool e4]] ++ cap) W fun e w' => ∃ i5 s5 p5 k5 c5 q5 l5 d5 j5 sz5 pz5 kz5 cz5 qz5 lz5 dz5 e5, e = .returned (.agg #[.int .i64 i5, .bool s5, .slice p5 k5 c5, .slice q5 l5 d5, .int .i64 j5, .bool sz5, .slice pz5 kz5 cz5, .slice qz5 lz5 dz5, .bool e5]) ∧ Hid (SRep w' (.agg #[.int .i64 i5, .bool s5, .slice p5 k5 c5, .slice q5 l5 d5, .int .i64 j5, .bool sz5, .slice pz5 kz5 cz5, .slice qz5 lz5 dz5, .bool e5]) r) ∧ Below W.heap.size W w') :
  Calls Tryz.prog 106 #[.agg #[.bool s1, .slice p1 k1 c1, .slice q1 l1 d1, .bool sz1, .slice pz1 kz1 cz1, .slice qz1 lz1 dz1, .bool x1, .bool y1], .agg #[.bool s2, .slice p2 k2 c2, .slice q2 l2 d2, .bool sz2, .slice pz2 kz2 cz2, .slice qz2 lz2 dz2, .bool x2, .bool y2], .bool true, .func (.func g) #[] cap] w fun e w' => ∃ s5 p5 k5 c5 q5 l5 d5 sz5 pz5 kz5 cz5 qz5 lz5 dz5 x5 y5, e = .returned (.tuple #[.agg #[.bool s5, .slice p5 k5 c5, .slice q5 l5 d5, .bool sz5, .slice pz5 kz5 cz5, .slice qz5 lz5 dz5, .bool x5, .bool y5], .int .i64 0]) ∧ Hid (GRep w' (.agg #[.bool s5, .slice p5 k5 c5, .slice q5 l5 d5, .bool sz5, .slice pz5 kz5 cz5, .slice qz5 lz5 dz5, .bool x5, .bool y5]) (giv r)) ∧ Below w.heap.size w w' := by
 have hmf := makeFunc_run
 have HC := hid (fun (W : World) (hW : Below w.heap.size w W) (b3 : Box W (w.heap.size + 1 + 1) #[.bool true]) (b4 : Box W (w.heap.size + 1 + 1 + 1) #[.func (.func g) #[] cap]) =>
  askBothI_ok s1 p1 k1 c1 q1 l1 d1 sz1 pz1 kz1 cz1 qz1 lz1 dz1 x1 y1 s2 p2 k2 c2 q2 l2 d2 sz2 pz2 kz2 cz2 qz2 lz2 dz2 x2 y2 168 #[.pointer (some ⟨w.heap.size + 1 + 1, 0, none⟩), .pointer (some ⟨w.heap.size + 1 + 1 + 1, 0, none⟩)] a b a' b' (giv r) W
   (ha.below hW) (hb.below hW) (ha'.below hW) (hb'.below hW) h1 h2 h3 h4 (ht.below hW) enter_both1
   (fun W' i3 s3 p3 k3 c3 q3 l3 d3 j3 sz3 pz3 kz3 cz3 qz3 lz3 dz3 e3 i4 s4 p4 k4 c4 q4 l4 d4 j4 sz4 pz4 kz4 cz4 qz4 lz4 dz4 e4 hW' hS1 hS2 => both1_ok i3 s3 p3 k3 c3 q3 l3 d3 j3 sz3 pz3 kz3 cz3 qz3 lz3 dz3 e3 i4 s4 p4 k4 c4 q4 l4 d4 j4 sz4 pz4 kz4 cz4 qz4 lz4 dz4 e4 (w.heap.size + 1 + 1) (w.heap.size + 1 + 1 + 1) g cap (srd (a, b, x1, y1)) (srd (a', b', x2, y2)) r W' (b3.below hW') (b4.below hW') hS1 hS2 hx hy hr hbg he hfn
    (fun W2 h5 => hop W2 i3 s3 p3 k3 c3 q3 l3 d3 j3 sz3 pz3 kz3 cz3 qz3 lz3 dz3 e3 i4 s4 p4 k4 c4 q4 l4 d4 j4 sz4 pz4 kz4 cz4 qz4 lz4 dz4 e4 (hW.trans ((hW'.trans (h5.mono hW'.size)).mono hW.size)))))
 obtain ⟨D, hD⟩ : ∃ D, D = giv r := ⟨_, rfl⟩
 rw [← hD] at HC ⊢
 clear ha hb ha' hb' h1 h2 h3 h4 ht hx hy hr hbg he hop hfn hD
 go_enter Tryz.func106, Tryz.ntmps106
 go_wp2_with fail
 have HV := hid (pre5 w [.bool s1, .slice p1 k1 c1, .slice q1 l1 d1, .bool sz1, .slice pz1 kz1 cz1, .slice qz1 lz1 dz1, .bool x1, .bool y1] [.bool s2, .slice p2 k2 c2, .slice q2 l2 d2, .bool sz2, .slice pz2 kz2 cz2, .slice qz2 lz2 dz2, .bool x2, .bool y2] [.bool true] [.func (.func g) #[] cap] [.bool false, .slice none 0 0, .slice none 0 0, .bool false, .slice none 0 0, .slice none 0 0, .bool false, .bool false] 26 26 4 74 26 nd8 nd8 nd1 nd1 nd8)
 generalize ((((w.alloc (.cells #[.bool s1, .slice p1 k1 c1, .slice q1 l1 d1, .bool sz1, .slice pz1 kz1 cz1, .slice qz1 lz1 dz1, .bool x1, .bool y1] 26)).alloc (.cells #[.bool s2, .slice p2 k2 c2, .slice q2 l2 d2, .bool sz2, .slice pz2 kz2 cz2, .slice qz2 lz2 dz2, .bool x2, .bool y2] 26)).alloc (.cells #[.bool true] 4)).alloc (.cells #[.func (.func g) #[] cap] 74)).alloc (.cells #[.bool false, .slice none 0 0, .slice none 0 0, .bool false, .slice none 0 0, .slice none 0 0, .bool false, .bool false] 26) = W0 at *
 refine (HC.out _ HV.out.2.2.2.2.2 HV.out.2.2.1 HV.out.2.2.2.1).mono ?_
 rintro e w1 ⟨s5, p5, k5, c5, q5, l5, d5, sz5, pz5, kz5, cz5, qz5, lz5, dz5, x5, y5, rfl, hG, hB1⟩
 have HE := hid (And.intro (HV.out.2.2.2.2.1.below hB1) (HV.out.2.2.2.2.2.trans (hB1.mono HV.out.2.2.2.2.2.size)))
 clear hB1
 obtain ⟨g0, g1, g2, g3, g4, g5, g6, g7, f0, f1, f2, f3, f4, f5, f6, f7⟩ := HE.out.1.cells8
 go_wp2_with fail
 exact both_ret rfl rfl (HE.out.1.stores [.bool s5, .slice p5 k5 c5, .slice q5 l5 d5, .bool sz5, .slice pz5 kz5 cz5, .slice qz5 lz5 dz5, .bool x5, .bool y5] rfl nd8) ⟨s5, p5, k5, c5, q5, l5, d5, sz5, pz5, kz5, cz5, qz5, lz5, dz5, x5, y5, rfl, hid (GRep.stores (k := 0) (l := [.bool s5, .slice p5 k5 c5, .slice q5 l5 d5, .bool sz5, .slice pz5 kz5 cz5, .slice qz5 lz5 dz5, .bool x5, .bool y5]) hG.out HE.out.1 nd8), Below.stores (k := 0) (l := [.bool s5, .slice p5 k5 c5, .slice q5 l5 d5, .bool sz5, .slice pz5 kz5 cz5, .slice qz5 lz5 dz5, .bool x5, .bool y5]) HE.out.2 (by omega)⟩
theorem QQ.i3 {w w1 : World} {B B' B2 : Nat} {cs cs' c2 : List Value} (h : Box w1 B cs.toArray) (h' : Box w1 B' cs'.toArray) (h2 : Box w1 B2 c2.toArray) (hb : Below w.heap.size w w1) : QQ w [(B, cs), (B', cs'), (B2, c2)] w1 := by
 refine ⟨fun p hp => ?_, hb⟩
 rcases List.mem_cons.1 hp with rfl | hp
 ·exact h
 ·rcases List.mem_cons.1 hp with rfl | hp
  ·exact h'
  ·obtain rfl := List.mem_singleton.1 hp
   exact h2
theorem ne3 {B B' B2 C : Nat} {cs cs' c2 : List Value} (h : B ≠ C) (h' : B' ≠ C) (h2 : B2 ≠ C) : Apart [(B, cs), (B', cs'), (B2, c2)] C := by
 intro p hp
 rcases List.mem_cons.1 hp with rfl | hp
 ·exact h
 ·rcases List.mem_cons.1 hp with rfl | hp
  ·exact h'
  ·obtain rfl := List.mem_singleton.1 hp
   exact h2
theorem lt_32k {x A : Nat} (h : x < W32 ^ (A + 31251 + 1)) (hA : A ≤ 1000) : x < W32 ^ 100000 := by
 generalize hB : 100000 = B at *
 exact lt_pow h (by omega)
theorem pow2_W100k {p : Nat} (hp : p ≤ 128) : 2 ^ p < W32 ^ 100000 := by
 have h1 : 2 ^ p < W32 ^ 5 := Nat.lt_of_le_of_lt (Nat.pow_le_pow_right (by decide) hp) (by decide)
 generalize hB : 100000 = B
 exact lt_pow h1 (by omega)
theorem gdn_100a {t : Bool × Nat × Nat} {p A : Nat} (hn : t.2.1 < W32 ^ A) (hA : A ≤ 1000) (hp : p ≤ 128) : (gdn t p).2.1 < W32 ^ 100000 ∧ (gdn t p).2.2 < W32 ^ 100000 := by
 have h1 : t.2.1 * 2 ^ p < W32 ^ (A + 31251) := shg_W hn (by omega)
 have h2 : botn (t.1, t.2.1 * 2 ^ p, t.2.2) < W32 ^ (A + 31251 + 1) := Nat.lt_of_le_of_lt (botn_le _) (succ_W h1)
 exact ⟨Nat.lt_of_le_of_lt (Nat.div_le_self _ _) (lt_32k h2 hA), Nat.lt_of_le_of_lt (Nat.div_le_self _ _) (pow2_W100k hp)⟩
theorem gdn_100k {t : Bool × Nat × Nat} {p : Nat} (hn : t.2.1 < W32 ^ 1000) (hp : p ≤ 128) : (gdn t p).2.1 < W32 ^ 100000 ∧ (gdn t p).2.2 < W32 ^ 100000 := gdn_100a hn (Nat.le_refl _) hp
theorem EOk.dn {x : Int × Bool × Nat × Nat} {p : Nat} (h : EOk 1000 x) (hp : p ≤ 128) : EOk 100000 (edn x p) := by
 unfold edn
 by_cases h0 : x.1 = 0
 ·rw [if_pos h0]
  exact ⟨fun _ => gdn_fr p, fun h => absurd rfl h, (gdn_100k h.bn hp).1, (gdn_100k h.bn hp).2⟩
 ·rw [if_neg h0]
  exact ⟨h.fin, h.inf, lt_100k1 h.bn, lt_100k1 h.bd⟩
theorem EOk.up {x : Int × Bool × Nat × Nat} {p : Nat} (h : EOk 1000 x) (hp : p ≤ 128) : EOk 100000 (eup x p) := by
 unfold eup
 by_cases h0 : x.1 = 0
 ·rw [if_pos h0]
  exact ⟨fun _ => gup_fr p, fun h => absurd rfl h, (gdn_100k (t := fneg x.2) h.bn hp).1, (gdn_100k (t := fneg x.2) h.bn hp).2⟩
 ·rw [if_neg h0]
  exact ⟨h.fin, h.inf, lt_100k1 h.bn, lt_100k1 h.bd⟩
theorem rounded_ret {W : World} {B : Nat} {a0 a1 a2 a3 a4 a5 a6 a7 ev : Value} {tm : Array Value} {R : Ending → World → Prop} (h2 : tm[8]?.getD undef = .pointer (some ⟨B, 0, none⟩)) (h3 : tm[9]?.getD undef = ev) (hV : Box W B #[a0, a1, a2, a3, a4, a5, a6, a7]) (hR : R (.returned (.tuple #[.agg #[a0, a1, a2, a3, a4, a5, a6, a7], ev])) W) :
  bodyPost Tryz.prog Tryz.f43 R .ret { tmps := tm, defers := [] } W := by
 obtain ⟨g0, g1, g2, g3, g4, g5, g6, g7, _⟩ := hV.cells8
 exact bodyPost_ret (v := .tuple #[.agg #[a0, a1, a2, a3, a4, a5, a6, a7], ev]) (by simp [results, Tryz.results43, go_sem, h2, h3, g0, g1, g2, g3, g4, g5, g6, g7]) rfl hR
theorem rounded_ok (s1 : Bool) (p1 : Option Addr) (k1 c1 : Nat) (q1 : Option Addr) (l1 d1 : Nat) (sz1 : Bool) (pz1 : Option Addr) (kz1 cz1 : Nat) (qz1 : Option Addr) (lz1 dz1 : Nat) (x1 : Bool) (y1 : Bool) (s2 : Bool) (p2 : Option Addr) (k2 c2 : Nat) (q2 : Option Addr) (l2 d2 : Nat) (sz2 : Bool) (pz2 : Option Addr) (kz2 cz2 : Nat) (qz2 : Option Addr) (lz2 dz2 : Nat) (x2 : Bool) (y2 : Bool) (pr : Nat) (g : FuncId) (cap : Array Value) (a b a' b' : Bool × Nat × Nat) (r : (Int × Bool × Nat × Nat) × (Int × Bool × Nat × Nat) × Bool) (w : World)
  (ha : NRep w (.agg #[.bool s1, .slice p1 k1 c1, .slice q1 l1 d1]) a) (hb : NRep w (.agg #[.bool sz1, .slice pz1 kz1 cz1, .slice qz1 lz1 dz1]) b) (ha' : NRep w (.agg #[.bool s2, .slice p2 k2 c2, .slice q2 l2 d2]) a') (hb' : NRep w (.agg #[.bool sz2, .slice pz2 kz2 cz2, .slice qz2 lz2 dz2]) b')
  (h1 : large a.2.1 a.2.2 = false) (h2 : large b.2.1 b.2.2 = false) (h3 : large a'.2.1 a'.2.2 = false) (h4 : large b'.2.1 b'.2.2 = false) (ht : TabOk w)
  (hx : (srd (a, b, x1, y1)).2.2 = false) (hy : (srd (a', b', x2, y2)).2.2 = false) (hp : pr ≤ 128)
  (hr : EOk 1000 r.1 ∧ EOk 1000 r.2.1) (hbg : ebig (sround r pr).1 = false ∧ ebig (sround r pr).2.1 = false)
  (hfn : ∀ args W, (callFunc g args).run Tryz.prog W = .ok (.enter g args) W)
  (hop : ∀ W (i3 : Int) (s3 : Bool) (p3 : Option Addr) (k3 c3 : Nat) (q3 : Option Addr) (l3 d3 : Nat) (j3 : Int) (sz3 : Bool) (pz3 : Option Addr) (kz3 cz3 : Nat) (qz3 : Option Addr) (lz3 dz3 : Nat) (e3 : Bool) (i4 : Int) (s4 : Bool) (p4 : Option Addr) (k4 c4 : Nat) (q4 : Option Addr) (l4 d4 : Nat) (j4 : Int) (sz4 : Bool) (pz4 : Option Addr) (kz4 cz4 : Nat) (qz4 : Option Addr) (lz4 dz4 : Nat) (e4 : Bool), Below w.heap.size w W → SRep W (.agg #[.int .i64 i3, .bool s3, .slice p3 k3 c3, .slice q3 l3 d3, .int .i64 j3, .bool sz3, .slice pz3 kz3 cz3, .slice qz3 lz3 dz3, .bool e3]) (srd (a, b, x1, y1)) → SRep W (.agg #[.int .i64 i4, .bool s4, .slice p4 k4 c4, .slice q4 l4 d4, .int .i64 j4, .bool sz4, .slice pz4 kz4 cz4, .slice qz4 lz4 dz4, .bool e4]) (srd (a', b', x2, y2)) → Calls Tryz.prog g (#[.agg #[.int .i64 i3, .bool s3, .slice p3 k3 c3, .slice q3 l3 d3, .int .i64 j3, .bool sz3, .slice pz3 kz3 cz3, .slice qz3 lz3 dz3, .bool e3], .agg #[.int .i64 i4, .bool s4, .slice p4 k4 c4, .slice q4 l4 d4, .int .i64 j4, .bool sz4, .slice pz4 kz4 cz4, .slice qz4 lz4 dz4, .bool e4]] ++ cap) W fun e w' => ∃ i5 s5 p5 k5 c5 q5 l5 d5 j5 sz5 pz5 kz5 cz5 qz5 lz5 dz5 e5, e = .returned (.agg #[.int .i64 i5, .bool s5, .slice p5 k5 c5, .slice q5 l5 d5, .int .i64 j5, .bool sz5, .slice pz5 kz5 cz5, .slice qz5 lz5 dz5, .bool e5]) ∧ Hid (SRep w' (.agg #[.int .i64 i5, .bool s5, .slice p5 k5 c5, .slice q5 l5 d5, .int .i64 j5, .bool sz5, .slice pz5 kz5 cz5, .slice qz5 lz5 dz5, .bool e5]) r) ∧ Below W.heap.size W w') :
  Calls Tryz.prog 43 #[.agg #[.bool s1, .slice p1 k1 c1, .slice q1 l1 d1, .bool sz1, .slice pz1 kz1 cz1, .slice qz1 lz1 dz1, .bool x1, .bool y1], .agg #[.bool s2, .slice p2 k2 c2, .slice q2 l2 d2, .bool sz2, .slice pz2 kz2 cz2, .slice qz2 lz2 dz2, .bool x2, .bool y2], .int .i64 (pr : Int), .func (.func g) #[] cap] w fun e w' => ∃ s5 p5 k5 c5 q5 l5 d5 sz5 pz5 kz5 cz5 qz5 lz5 dz5 x5 y5, e = .returned (.tuple #[.agg #[.bool s5, .slice p5 k5 c5, .slice q5 l5 d5, .bool sz5, .slice pz5 kz5 cz5, .slice qz5 lz5 dz5, .bool x5, .bool y5], .int .i64 0]) ∧ Hid (GRep w' (.agg #[.bool s5, .slice p5 k5 c5, .slice q5 l5 d5, .bool sz5, .slice pz5 kz5 cz5, .slice qz5 lz5 dz5, .bool x5, .bool y5]) (giv (sround r pr))) ∧ Below w.heap.size w w' := by
 have hmf := makeFunc_run
 have HC := hid (fun (W : World) (hW : Below w.heap.size w W) (b3 : Box W (w.heap.size + 1 + 1) #[.int .i64 (pr : Int)]) (b4 : Box W (w.heap.size + 1 + 1 + 1) #[.func (.func g) #[] cap]) =>
  both_ok s1 p1 k1 c1 q1 l1 d1 sz1 pz1 kz1 cz1 qz1 lz1 dz1 x1 y1 s2 p2 k2 c2 q2 l2 d2 sz2 pz2 kz2 cz2 qz2 lz2 dz2 x2 y2 107 #[.pointer (some ⟨w.heap.size + 1 + 1 + 1, 0, none⟩), .pointer (some ⟨w.heap.size + 1 + 1, 0, none⟩)] a b a' b' (sround r pr) W
   (ha.below hW) (hb.below hW) (ha'.below hW) (hb'.below hW) h1 h2 h3 h4 (ht.below hW) hx hy ⟨hr.1.dn hp, hr.2.up hp⟩ hbg rfl enter_rounded1
   (fun W' i3 s3 p3 k3 c3 q3 l3 d3 j3 sz3 pz3 kz3 cz3 qz3 lz3 dz3 e3 i4 s4 p4 k4 c4 q4 l4 d4 j4 sz4 pz4 kz4 cz4 qz4 lz4 dz4 e4 hW' hS1 hS2 => rounded1_ok i3 s3 p3 k3 c3 q3 l3 d3 j3 sz3 pz3 kz3 cz3 qz3 lz3 dz3 e3 i4 s4 p4 k4 c4 q4 l4 d4 j4 sz4 pz4 kz4 cz4 qz4 lz4 dz4 e4 (w.heap.size + 1 + 1 + 1) (w.heap.size + 1 + 1) g cap pr (srd (a, b, x1, y1)) (srd (a', b', x2, y2)) r W' (b4.below hW') (b3.below hW') hS1 hS2 hr (by omega) ((ht.below hW).below hW') hfn
    (fun W2 h5 => hop W2 i3 s3 p3 k3 c3 q3 l3 d3 j3 sz3 pz3 kz3 cz3 qz3 lz3 dz3 e3 i4 s4 p4 k4 c4 q4 l4 d4 j4 sz4 pz4 kz4 cz4 qz4 lz4 dz4 e4 (hW.trans ((hW'.trans (h5.mono hW'.size)).mono hW.size)))))
 have HPr := hid (fun (W : World) => isPrecision_ok (pr : Int) (by omega) (by omega) W)
 obtain ⟨D, hD⟩ : ∃ D, D = giv (sround r pr) := ⟨_, rfl⟩
 rw [← hD] at HC ⊢
 clear ha hb ha' hb' h1 h2 h3 h4 ht hx hy hr hbg hop hfn hD hp
 obtain ⟨pi, hpi⟩ : ∃ pi : Int, pi = (pr : Int) := ⟨_, rfl⟩
 rw [← hpi] at HC HPr ⊢
 clear hpi
 go_enter Tryz.func43, Tryz.ntmps43
 go_wp2_with fail
 have HV := hid (pre5 w [.bool s1, .slice p1 k1 c1, .slice q1 l1 d1, .bool sz1, .slice pz1 kz1 cz1, .slice qz1 lz1 dz1, .bool x1, .bool y1] [.bool s2, .slice p2 k2 c2, .slice q2 l2 d2, .bool sz2, .slice pz2 kz2 cz2, .slice qz2 lz2 dz2, .bool x2, .bool y2] [.int .i64 pi] [.func (.func g) #[] cap] [.bool false, .slice none 0 0, .slice none 0 0, .bool false, .slice none 0 0, .slice none 0 0, .bool false, .bool false] 26 26 3 74 26 nd8 nd8 nd1 nd1 nd8)
 generalize ((((w.alloc (.cells #[.bool s1, .slice p1 k1 c1, .slice q1 l1 d1, .bool sz1, .slice pz1 kz1 cz1, .slice qz1 lz1 dz1, .bool x1, .bool y1] 26)).alloc (.cells #[.bool s2, .slice p2 k2 c2, .slice q2 l2 d2, .bool sz2, .slice pz2 kz2 cz2, .slice qz2 lz2 dz2, .bool x2, .bool y2] 26)).alloc (.cells #[.int .i64 pi] 3)).alloc (.cells #[.func (.func g) #[] cap] 74)).alloc (.cells #[.bool false, .slice none 0 0, .slice none 0 0, .bool false, .slice none 0 0, .slice none 0 0, .bool false, .bool false] 26) = W0 at *
 have HQ := hid (QQ.i3 (cs := [.bool s1, .slice p1 k1 c1, .slice q1 l1 d1, .bool sz1, .slice pz1 kz1 cz1, .slice qz1 lz1 dz1, .bool x1, .bool y1]) (cs' := [.bool s2, .slice p2 k2 c2, .slice q2 l2 d2, .bool sz2, .slice pz2 kz2 cz2, .slice qz2 lz2 dz2, .bool x2, .bool y2]) (c2 := [.int .i64 pi]) HV.out.1 HV.out.2.1 HV.out.2.2.1 HV.out.2.2.2.2.2)
 have HS := hid (fun (w' : World) (hb : QQ w [(w.heap.size, [.bool s1, .slice p1 k1 c1, .slice q1 l1 d1, .bool sz1, .slice pz1 kz1 cz1, .slice qz1 lz1 dz1, .bool x1, .bool y1]), (w.heap.size + 1, [.bool s2, .slice p2 k2 c2, .slice q2 l2 d2, .bool sz2, .slice pz2 kz2 cz2, .slice qz2 lz2 dz2, .bool x2, .bool y2]), (w.heap.size + 1 + 1, [.int .i64 pi])] w') => hb.s_8_8_1)
 have HN : Hid (Apart [(w.heap.size, [.bool s1, .slice p1 k1 c1, .slice q1 l1 d1, .bool sz1, .slice pz1 kz1 cz1, .slice qz1 lz1 dz1, .bool x1, .bool y1]), (w.heap.size + 1, [.bool s2, .slice p2 k2 c2, .slice q2 l2 d2, .bool sz2, .slice pz2 kz2 cz2, .slice qz2 lz2 dz2, .bool x2, .bool y2]), (w.heap.size + 1 + 1, [.int .i64 pi])] (w.heap.size + 1 + 1 + 1 + 1)) := hid (ne3 (by omega) (by omega) (by omega))
 have HI : Hid (w.heap.size ≤ w.heap.size + 1 + 1 + 1 + 1) := hid (by omega)
 go_region_held3 (fun w' => w'.cell? ⟨w.heap.size, 0, none⟩ = some (.bool s1) ∧ w'.cell? ⟨w.heap.size, 1, none⟩ = some (.slice p1 k1 c1) ∧ w'.cell? ⟨w.heap.size, 2, none⟩ = some (.slice q1 l1 d1) ∧ w'.cell? ⟨w.heap.size, 3, none⟩ = some (.bool sz1) ∧ w'.cell? ⟨w.heap.size, 4, none⟩ = some (.slice pz1 kz1 cz1) ∧ w'.cell? ⟨w.heap.size, 5, none⟩ = some (.slice qz1 lz1 dz1) ∧ w'.cell? ⟨w.heap.size, 6, none⟩ = some (.bool x1) ∧ w'.cell? ⟨w.heap.size, 7, none⟩ = some (.bool y1) ∧ w'.cell? ⟨w.heap.size + 1, 0, none⟩ = some (.bool s2) ∧ w'.cell? ⟨w.heap.size + 1, 1, none⟩ = some (.slice p2 k2 c2) ∧ w'.cell? ⟨w.heap.size + 1, 2, none⟩ = some (.slice q2 l2 d2) ∧ w'.cell? ⟨w.heap.size + 1, 3, none⟩ = some (.bool sz2) ∧ w'.cell? ⟨w.heap.size + 1, 4, none⟩ = some (.slice pz2 kz2 cz2) ∧ w'.cell? ⟨w.heap.size + 1, 5, none⟩ = some (.slice qz2 lz2 dz2) ∧ w'.cell? ⟨w.heap.size + 1, 6, none⟩ = some (.bool x2) ∧ w'.cell? ⟨w.heap.size + 1, 7, none⟩ = some (.bool y2) ∧ w'.cell? ⟨w.heap.size + 1 + 1, 0, none⟩ = some (.int .i64 pi) ∧ Hid (QQ w [(w.heap.size, [.bool s1, .slice p1 k1 c1, .slice q1 l1 d1, .bool sz1, .slice pz1 kz1 cz1, .slice qz1 lz1 dz1, .bool x1, .bool y1]), (w.heap.size + 1, [.bool s2, .slice p2 k2 c2, .slice q2 l2 d2, .bool sz2, .slice pz2 kz2 cz2, .slice qz2 lz2 dz2, .bool x2, .bool y2]), (w.heap.size + 1 + 1, [.int .i64 pi])] w'))
  (first | (refine HS.out _ ?_; first | (with_reducible exact HQ.out.drew) | (with_reducible assumption) | (with_reducible refine QQ.st8 ?_ HN.out HI.out; assumption)))
  (first
   | (go_at_call 57; refine (HPr.out _).mono ?_; rintro e wa ⟨rfl, rfl⟩)
   | (go_at_call 106; refine (HC.out _ HQ.out.drew.bel (HV.out.2.2.1.drew) (HV.out.2.2.2.1.drew)).mono ?_; rintro e wb ⟨s5, p5, k5, c5, q5, l5, d5, sz5, pz5, kz5, cz5, qz5, lz5, dz5, x5, y5, rfl, hG, hB2⟩; have hQ2 := HQ.out.drew.call hB2; have hV2 := (HV.out.2.2.2.2.1.drew).below hB2; obtain ⟨g0, g1, g2, g3, g4, g5, g6, g7, f0, f1, f2, f3, f4, f5, f6, f7⟩ := hV2.cells8))
 all_goals
  have HE := hid (And.intro hV2 (And.intro hG.out hQ2.bel))
  clear hQ2 hV2 hB2 hG
  go_wp2_with fail
  exact rounded_ret rfl rfl (HE.out.1.stores [.bool s5, .slice p5 k5 c5, .slice q5 l5 d5, .bool sz5, .slice pz5 kz5 cz5, .slice qz5 lz5 dz5, .bool x5, .bool y5] rfl nd8) ⟨s5, p5, k5, c5, q5, l5, d5, sz5, pz5, kz5, cz5, qz5, lz5, dz5, x5, y5, rfl, hid (GRep.stores (k := 0) (l := [.bool s5, .slice p5 k5 c5, .slice q5 l5 d5, .bool sz5, .slice pz5 kz5 cz5, .slice qz5 lz5 dz5, .bool x5, .bool y5]) HE.out.2.1 HE.out.1 nd8), Below.stores (k := 0) (l := [.bool s5, .slice p5 k5 c5, .slice q5 l5 d5, .bool sz5, .slice pz5 kz5 cz5, .slice qz5 lz5 dz5, .bool x5, .bool y5]) HE.out.2.2 HI.out⟩
end Go.Proofs.YtheojajaefjecaaGreatDoor
