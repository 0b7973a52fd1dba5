/- The road of an operation on two intervals that rounds. -/
import Derived.Test.YtgjjcmclikiojaaGreatDoorSets
import Derived.Test.YtgjjcmclikiojaaGreatDoorAbI
namespace Go.Proofs.YtgjjcmclikiojaaGreatDoor
open Go.RowKit Dg

theorem Box.mk4 (w : World) (o o' o'' o3 : Obj) (l : List Value) (t : Nat) (h : NDs l) : Box (((((w.alloc o).alloc o').alloc o'').alloc o3).alloc (.cells l.toArray t)) (w.heap.size + 1 + 1 + 1 + 1) l.toArray := by
  have := Box.mk3 (w.alloc o) o' o'' o3 l t h
  rwa [World.size_alloc] at this
theorem pre4 (w : World) (l1 l2 l3 l4 : List Value) (t1 t2 t3 t4 : Nat) (h1 : NDs l1) (h2 : NDs l2) (h3 : NDs l3) (h4 : NDs l4) :
    let W := (((w.alloc (.cells l1.toArray t1)).alloc (.cells l2.toArray t2)).alloc (.cells l3.toArray t3)).alloc (.cells l4.toArray t4)
    Box W w.heap.size l1.toArray ∧ Box W (w.heap.size + 1) l2.toArray ∧ Box W (w.heap.size + 1 + 1) l3.toArray ∧ Box W (w.heap.size + 1 + 1 + 1) l4.toArray ∧ Below w.heap.size w W :=
  have h := pre3 w l1 l2 l3 t1 t2 t3 h1 h2 h3
  ⟨h.1.more _, h.2.1.more _, h.2.2.1.more _, Box.mk3 w _ _ _ l4 t4 h4, h.2.2.2.alloc h.2.2.2.size _⟩
theorem pre5 (w : World) (l1 l2 l3 l4 l5 : List Value) (t1 t2 t3 t4 t5 : Nat) (h1 : NDs l1) (h2 : NDs l2) (h3 : NDs l3) (h4 : NDs l4) (h5 : NDs l5) :
    let W := ((((w.alloc (.cells l1.toArray t1)).alloc (.cells l2.toArray t2)).alloc (.cells l3.toArray t3)).alloc (.cells l4.toArray t4)).alloc (.cells l5.toArray t5)
    Box W w.heap.size l1.toArray ∧ Box W (w.heap.size + 1) l2.toArray ∧ Box W (w.heap.size + 1 + 1) l3.toArray ∧ Box W (w.heap.size + 1 + 1 + 1) l4.toArray ∧ Box W (w.heap.size + 1 + 1 + 1 + 1) l5.toArray ∧ Below w.heap.size w W :=
  have h := pre4 w l1 l2 l3 l4 t1 t2 t3 t4 h1 h2 h3 h4
  ⟨h.1.more _, h.2.1.more _, h.2.2.1.more _, h.2.2.2.1.more _, Box.mk4 w _ _ _ _ l5 t5 h5, h.2.2.2.2.alloc h.2.2.2.2.size _⟩

theorem requireArg_ok (w : World) : Calls Tryz.prog 131 #[.bool true] w fun e w' => e = .returned (.tuple #[]) ∧ w = w' := by
  go_enter Tryz.func131, Tryz.ntmps131
  go_wp2_with fail
  exact bodyPost_end (v := .tuple #[]) (by simp [results, Tryz.results131, go_sem]) rfl ⟨rfl, rfl⟩
theorem isPrecision_ok (p : Int) (h0 : 0 ≤ p) (h1 : p ≤ 128) (w : World) : Calls Tryz.prog 104 #[.int .i64 p] w fun e w' => e = .returned (.bool true) ∧ w = w' := by
  go_enter Tryz.func104, Tryz.ntmps104
  go_wp2_with fail
  go_ret
  exact ⟨rfl, rfl⟩

/-- Two sets' variables, an operation's and a precision's. -/
def Q4 (w : World) (Bo Bp : Nat) (g : FuncId) (cap : Array Value) (pi : Int) (l1 l2 : List Value) (w' : World) : Prop :=
  Box w' w.heap.size l1.toArray ∧ Box w' (w.heap.size + 1) l2.toArray ∧ Box w' Bo #[.func (.func g) #[] cap] ∧ Box w' Bp #[.int .i64 pi] ∧ Below w.heap.size w w'
theorem Q4.call {w w1 w2 : World} {Bo Bp : Nat} {g : FuncId} {cap : Array Value} {pi : Int} {l1 l2 : List Value} (h : Q4 w Bo Bp g cap pi l1 l2 w1) (hb : Below w1.heap.size w1 w2) : Q4 w Bo Bp g cap pi l1 l2 w2 :=
  ⟨h.1.below hb, h.2.1.below hb, h.2.2.1.below hb, h.2.2.2.1.below hb, h.2.2.2.2.trans (hb.mono h.2.2.2.2.size)⟩
theorem Q4.drew {w w1 : World} {Bo Bp : Nat} {g : FuncId} {cap : Array Value} {pi : Int} {l1 l2 : List Value} (h : Q4 w Bo Bp g cap pi l1 l2 w1) : Q4 w Bo Bp g cap pi l1 l2 w1.drew := h.call (Below.refl _ _).drew
theorem Q4.st9 {w w1 : World} {Bo Bp : Nat} {g : FuncId} {cap : Array Value} {pi : Int} {l1 l2 : List Value} {a b c d e f i j k : Value} (h : Q4 w Bo Bp g cap pi l1 l2 w1) (ho : Bo < w.heap.size) (hp : Bp < w.heap.size) :
    Q4 w Bo Bp g cap pi l1 l2 (((((((((w1.setCell ⟨w.heap.size + 1 + 1, 0, none⟩ a).setCell ⟨w.heap.size + 1 + 1, 1, none⟩ b).setCell ⟨w.heap.size + 1 + 1, 2, none⟩ c).setCell ⟨w.heap.size + 1 + 1, 3, none⟩ d).setCell ⟨w.heap.size + 1 + 1, 4, none⟩ e).setCell ⟨w.heap.size + 1 + 1, 5, none⟩ f).setCell ⟨w.heap.size + 1 + 1, 6, none⟩ i).setCell ⟨w.heap.size + 1 + 1, 7, none⟩ j).setCell ⟨w.heap.size + 1 + 1, 8, none⟩ k) :=
  ⟨Box.stores_other (k := 0) (l := [a, b, c, d, e, f, i, j, k]) h.1 (by omega), Box.stores_other (k := 0) (l := [a, b, c, d, e, f, i, j, k]) h.2.1 (by omega), Box.stores_other (k := 0) (l := [a, b, c, d, e, f, i, j, k]) h.2.2.1 (by omega), Box.stores_other (k := 0) (l := [a, b, c, d, e, f, i, j, k]) h.2.2.2.1 (by omega), Below.stores (k := 0) (l := [a, b, c, d, e, f, i, j, k]) h.2.2.2.2 (by omega)⟩

theorem rounded1_ret {W : World} {B : Nat} {a0 a1 a2 a3 a4 a5 a6 a7 a8 : Value} {tm : Array Value} {R : Ending → World → Prop} (h2 : tm[6]?.getD undef = .pointer (some ⟨B, 0, none⟩)) (hV : Box W B #[a0, a1, a2, a3, a4, a5, a6, a7, a8]) (hR : R (.returned (.agg #[a0, a1, a2, a3, a4, a5, a6, a7, a8])) W) :
    bodyPost Tryz.prog Tryz.f169 R .ret { tmps := tm, defers := [] } W := by
  obtain ⟨g0, g1, g2, g3, g4, g5, g6, g7, g8, _⟩ := hV.cells9
  exact bodyPost_ret (v := .agg #[a0, a1, a2, a3, a4, a5, a6, a7, a8]) (by simp [results, Tryz.results169, go_sem, h2, g0, g1, g2, g3, g4, g5, g6, g7, g8]) rfl hR
set_option maxHeartbeats 2000000 in
set_option maxRecDepth 100000 in
theorem rounded1_ok (i1 : Int) (s1 : Bool) (p1 : Option Addr) (k1 c1 : Nat) (q1 : Option Addr) (l1 d1 : Nat) (j1 : Int) (sz1 : Bool) (pz1 : Option Addr) (kz1 cz1 : Nat) (qz1 : Option Addr) (lz1 dz1 : Nat) (e1 : Bool) (i2 : Int) (s2 : Bool) (p2 : Option Addr) (k2 c2 : Nat) (q2 : Option Addr) (l2 d2 : Nat) (j2 : Int) (sz2 : Bool) (pz2 : Option Addr) (kz2 cz2 : Nat) (qz2 : Option Addr) (lz2 dz2 : Nat) (e2 : Bool) (Bo Bp : Nat) (g : FuncId) (cap : Array Value) (pr : Nat) (x y r : (Int × Bool × Nat × Nat) × (Int × Bool × Nat × Nat) × Bool) (w : World)
    (hBo : Box w Bo #[.func (.func g) #[] cap]) (hBp : Box w Bp #[.int .i64 (pr : Int)]) (h : SRep w (.agg #[.int .i64 i1, .bool s1, .slice p1 k1 c1, .slice q1 l1 d1, .int .i64 j1, .bool sz1, .slice pz1 kz1 cz1, .slice qz1 lz1 dz1, .bool e1]) x) (h' : SRep w (.agg #[.int .i64 i2, .bool s2, .slice p2 k2 c2, .slice q2 l2 d2, .int .i64 j2, .bool sz2, .slice pz2 kz2 cz2, .slice qz2 lz2 dz2, .bool e2]) y) (hr : EOk 1000 r.1 ∧ EOk 1000 r.2.1) (hp : pr ≤ 1000000) (ht : TabOk w)
    (hfn : ∀ args W, (callFunc g args).run Tryz.prog W = .ok (.enter g args) W)
    (hop : ∀ W, Below w.heap.size w W → SRep W (.agg #[.int .i64 i1, .bool s1, .slice p1 k1 c1, .slice q1 l1 d1, .int .i64 j1, .bool sz1, .slice pz1 kz1 cz1, .slice qz1 lz1 dz1, .bool e1]) x → SRep W (.agg #[.int .i64 i2, .bool s2, .slice p2 k2 c2, .slice q2 l2 d2, .int .i64 j2, .bool sz2, .slice pz2 kz2 cz2, .slice qz2 lz2 dz2, .bool e2]) y → Calls Tryz.prog g (#[.agg #[.int .i64 i1, .bool s1, .slice p1 k1 c1, .slice q1 l1 d1, .int .i64 j1, .bool sz1, .slice pz1 kz1 cz1, .slice qz1 lz1 dz1, .bool e1], .agg #[.int .i64 i2, .bool s2, .slice p2 k2 c2, .slice q2 l2 d2, .int .i64 j2, .bool sz2, .slice pz2 kz2 cz2, .slice qz2 lz2 dz2, .bool e2]] ++ cap) W fun e w' => ∃ i3 s3 p3 k3 c3 q3 l3 d3 j3 sz3 pz3 kz3 cz3 qz3 lz3 dz3 e3, e = .returned (.agg #[.int .i64 i3, .bool s3, .slice p3 k3 c3, .slice q3 l3 d3, .int .i64 j3, .bool sz3, .slice pz3 kz3 cz3, .slice qz3 lz3 dz3, .bool e3]) ∧ Hid (SRep w' (.agg #[.int .i64 i3, .bool s3, .slice p3 k3 c3, .slice q3 l3 d3, .int .i64 j3, .bool sz3, .slice pz3 kz3 cz3, .slice qz3 lz3 dz3, .bool e3]) r) ∧ Below W.heap.size W w') :
    Calls Tryz.prog 169 #[.agg #[.int .i64 i1, .bool s1, .slice p1 k1 c1, .slice q1 l1 d1, .int .i64 j1, .bool sz1, .slice pz1 kz1 cz1, .slice qz1 lz1 dz1, .bool e1], .agg #[.int .i64 i2, .bool s2, .slice p2 k2 c2, .slice q2 l2 d2, .int .i64 j2, .bool sz2, .slice pz2 kz2 cz2, .slice qz2 lz2 dz2, .bool e2], .pointer (some ⟨Bo, 0, none⟩), .pointer (some ⟨Bp, 0, none⟩)] w fun e w' => ∃ i3 s3 p3 k3 c3 q3 l3 d3 j3 sz3 pz3 kz3 cz3 qz3 lz3 dz3 e3, e = .returned (.agg #[.int .i64 i3, .bool s3, .slice p3 k3 c3, .slice q3 l3 d3, .int .i64 j3, .bool sz3, .slice pz3 kz3 cz3, .slice qz3 lz3 dz3, .bool e3]) ∧ Hid (SRep w' (.agg #[.int .i64 i3, .bool s3, .slice p3 k3 c3, .slice q3 l3 d3, .int .i64 j3, .bool sz3, .slice pz3 kz3 cz3, .slice qz3 lz3 dz3, .bool e3]) (sround r pr)) ∧ Below w.heap.size w w' := by
  have HO := hid (fun (W : World) (hW : Below w.heap.size w W) => hop W hW (h.below hW) (h'.below hW))
  have HR := hid (fun (W : World) (i3 : Int) (s3 : Bool) (p3 : Option Addr) (k3 c3 : Nat) (q3 : Option Addr) (l3 d3 : Nat) (j3 : Int) (sz3 : Bool) (pz3 : Option Addr) (kz3 cz3 : Nat) (qz3 : Option Addr) (lz3 dz3 : Nat) (e3 : Bool) (hW : Below w.heap.size w W) (hS : SRep W (.agg #[.int .i64 i3, .bool s3, .slice p3 k3 c3, .slice q3 l3 d3, .int .i64 j3, .bool sz3, .slice pz3 kz3 cz3, .slice qz3 lz3 dz3, .bool e3]) r) => sround_any i3 s3 p3 k3 c3 q3 l3 d3 j3 sz3 pz3 kz3 cz3 qz3 lz3 dz3 e3 pr r W hS hr hp (ht.below hW))
  obtain ⟨rr, hrr⟩ : ∃ rr, rr = sround r pr := ⟨_, rfl⟩
  rw [← hrr] at HR ⊢
  have HP := hid (And.intro hBo hBp)
  have hlo := hBo.lt
  have hlp := hBp.lt
  clear h h' hr hp ht hop hrr hBo hBp
  obtain ⟨pi, hpi⟩ : ∃ pi : Int, pi = (pr : Int) := ⟨_, rfl⟩
  rw [← hpi] at HR HP
  clear hpi
  go_enter Tryz.func169, Tryz.ntmps169
  go_wp2_with fail
  have HV := hid (pre3 w [.int .i64 i1, .bool s1, .slice p1 k1 c1, .slice q1 l1 d1, .int .i64 j1, .bool sz1, .slice pz1 kz1 cz1, .slice qz1 lz1 dz1, .bool e1] [.int .i64 i2, .bool s2, .slice p2 k2 c2, .slice q2 l2 d2, .int .i64 j2, .bool sz2, .slice pz2 kz2 cz2, .slice qz2 lz2 dz2, .bool e2] [.int .i64 0, .bool false, .slice none 0 0, .slice none 0 0, .int .i64 0, .bool false, .slice none 0 0, .slice none 0 0, .bool false] 61 61 61 ⟨trivial, trivial, trivial, trivial, trivial, trivial, trivial, trivial, trivial, trivial⟩ ⟨trivial, trivial, trivial, trivial, trivial, trivial, trivial, trivial, trivial, trivial⟩ ⟨trivial, trivial, trivial, trivial, trivial, trivial, trivial, trivial, trivial, trivial⟩)
  generalize ((w.alloc (.cells #[.int .i64 i1, .bool s1, .slice p1 k1 c1, .slice q1 l1 d1, .int .i64 j1, .bool sz1, .slice pz1 kz1 cz1, .slice qz1 lz1 dz1, .bool e1] 61)).alloc (.cells #[.int .i64 i2, .bool s2, .slice p2 k2 c2, .slice q2 l2 d2, .int .i64 j2, .bool sz2, .slice pz2 kz2 cz2, .slice qz2 lz2 dz2, .bool e2] 61)).alloc (.cells #[.int .i64 0, .bool false, .slice none 0 0, .slice none 0 0, .int .i64 0, .bool false, .slice none 0 0, .slice none 0 0, .bool false] 61) = W0 at *
  have HI : Hid (w.heap.size ≤ w.heap.size + 1 + 1) := hid (by omega)
  have HQ0 : Hid (Q4 w Bo Bp g cap pi [.int .i64 i1, .bool s1, .slice p1 k1 c1, .slice q1 l1 d1, .int .i64 j1, .bool sz1, .slice pz1 kz1 cz1, .slice qz1 lz1 dz1, .bool e1] [.int .i64 i2, .bool s2, .slice p2 k2 c2, .slice q2 l2 d2, .int .i64 j2, .bool sz2, .slice pz2 kz2 cz2, .slice qz2 lz2 dz2, .bool e2] W0) := hid ⟨HV.out.1, HV.out.2.1, HP.out.1.below HV.out.2.2.2, HP.out.2.below HV.out.2.2.2, HV.out.2.2.2⟩
  have HS : Hid (∀ w', Q4 w Bo Bp g cap pi [.int .i64 i1, .bool s1, .slice p1 k1 c1, .slice q1 l1 d1, .int .i64 j1, .bool sz1, .slice pz1 kz1 cz1, .slice qz1 lz1 dz1, .bool e1] [.int .i64 i2, .bool s2, .slice p2 k2 c2, .slice q2 l2 d2, .int .i64 j2, .bool sz2, .slice pz2 kz2 cz2, .slice qz2 lz2 dz2, .bool e2] w' → (w'.cell? ⟨w.heap.size, 0, none⟩ = some (.int .i64 i1) ∧ w'.cell? ⟨w.heap.size, 1, none⟩ = some (.bool s1) ∧ w'.cell? ⟨w.heap.size, 2, none⟩ = some (.slice p1 k1 c1) ∧ w'.cell? ⟨w.heap.size, 3, none⟩ = some (.slice q1 l1 d1) ∧ w'.cell? ⟨w.heap.size, 4, none⟩ = some (.int .i64 j1) ∧ w'.cell? ⟨w.heap.size, 5, none⟩ = some (.bool sz1) ∧ w'.cell? ⟨w.heap.size, 6, none⟩ = some (.slice pz1 kz1 cz1) ∧ w'.cell? ⟨w.heap.size, 7, none⟩ = some (.slice qz1 lz1 dz1) ∧ w'.cell? ⟨w.heap.size, 8, none⟩ = some (.bool e1) ∧ w'.cell? ⟨w.heap.size + 1, 0, none⟩ = some (.int .i64 i2) ∧ w'.cell? ⟨w.heap.size + 1, 1, none⟩ = some (.bool s2) ∧ w'.cell? ⟨w.heap.size + 1, 2, none⟩ = some (.slice p2 k2 c2) ∧ w'.cell? ⟨w.heap.size + 1, 3, none⟩ = some (.slice q2 l2 d2) ∧ w'.cell? ⟨w.heap.size + 1, 4, none⟩ = some (.int .i64 j2) ∧ w'.cell? ⟨w.heap.size + 1, 5, none⟩ = some (.bool sz2) ∧ w'.cell? ⟨w.heap.size + 1, 6, none⟩ = some (.slice pz2 kz2 cz2) ∧ w'.cell? ⟨w.heap.size + 1, 7, none⟩ = some (.slice qz2 lz2 dz2) ∧ w'.cell? ⟨w.heap.size + 1, 8, none⟩ = some (.bool e2) ∧ w'.cell? ⟨Bo, 0, none⟩ = some (.func (.func g) #[] cap) ∧ w'.cell? ⟨Bp, 0, none⟩ = some (.int .i64 pi) ∧ Hid (Q4 w Bo Bp g cap pi [.int .i64 i1, .bool s1, .slice p1 k1 c1, .slice q1 l1 d1, .int .i64 j1, .bool sz1, .slice pz1 kz1 cz1, .slice qz1 lz1 dz1, .bool e1] [.int .i64 i2, .bool s2, .slice p2 k2 c2, .slice q2 l2 d2, .int .i64 j2, .bool sz2, .slice pz2 kz2 cz2, .slice qz2 lz2 dz2, .bool e2] w'))) :=
    hid fun w' hb => ⟨(hb.1.cells9).1, (hb.1.cells9).2.1, (hb.1.cells9).2.2.1, (hb.1.cells9).2.2.2.1, (hb.1.cells9).2.2.2.2.1, (hb.1.cells9).2.2.2.2.2.1, (hb.1.cells9).2.2.2.2.2.2.1, (hb.1.cells9).2.2.2.2.2.2.2.1, (hb.1.cells9).2.2.2.2.2.2.2.2.1, (hb.2.1.cells9).1, (hb.2.1.cells9).2.1, (hb.2.1.cells9).2.2.1, (hb.2.1.cells9).2.2.2.1, (hb.2.1.cells9).2.2.2.2.1, (hb.2.1.cells9).2.2.2.2.2.1, (hb.2.1.cells9).2.2.2.2.2.2.1, (hb.2.1.cells9).2.2.2.2.2.2.2.1, (hb.2.1.cells9).2.2.2.2.2.2.2.2.1, hb.2.2.1.cells1.1, hb.2.2.2.1.cells1.1, hid hb⟩
  go_region_held3 (fun w' => w'.cell? ⟨w.heap.size, 0, none⟩ = some (.int .i64 i1) ∧ w'.cell? ⟨w.heap.size, 1, none⟩ = some (.bool s1) ∧ w'.cell? ⟨w.heap.size, 2, none⟩ = some (.slice p1 k1 c1) ∧ w'.cell? ⟨w.heap.size, 3, none⟩ = some (.slice q1 l1 d1) ∧ w'.cell? ⟨w.heap.size, 4, none⟩ = some (.int .i64 j1) ∧ w'.cell? ⟨w.heap.size, 5, none⟩ = some (.bool sz1) ∧ w'.cell? ⟨w.heap.size, 6, none⟩ = some (.slice pz1 kz1 cz1) ∧ w'.cell? ⟨w.heap.size, 7, none⟩ = some (.slice qz1 lz1 dz1) ∧ w'.cell? ⟨w.heap.size, 8, none⟩ = some (.bool e1) ∧ w'.cell? ⟨w.heap.size + 1, 0, none⟩ = some (.int .i64 i2) ∧ w'.cell? ⟨w.heap.size + 1, 1, none⟩ = some (.bool s2) ∧ w'.cell? ⟨w.heap.size + 1, 2, none⟩ = some (.slice p2 k2 c2) ∧ w'.cell? ⟨w.heap.size + 1, 3, none⟩ = some (.slice q2 l2 d2) ∧ w'.cell? ⟨w.heap.size + 1, 4, none⟩ = some (.int .i64 j2) ∧ w'.cell? ⟨w.heap.size + 1, 5, none⟩ = some (.bool sz2) ∧ w'.cell? ⟨w.heap.size + 1, 6, none⟩ = some (.slice pz2 kz2 cz2) ∧ w'.cell? ⟨w.heap.size + 1, 7, none⟩ = some (.slice qz2 lz2 dz2) ∧ w'.cell? ⟨w.heap.size + 1, 8, none⟩ = some (.bool e2) ∧ w'.cell? ⟨Bo, 0, none⟩ = some (.func (.func g) #[] cap) ∧ w'.cell? ⟨Bp, 0, none⟩ = some (.int .i64 pi) ∧ Hid (Q4 w Bo Bp g cap pi [.int .i64 i1, .bool s1, .slice p1 k1 c1, .slice q1 l1 d1, .int .i64 j1, .bool sz1, .slice pz1 kz1 cz1, .slice qz1 lz1 dz1, .bool e1] [.int .i64 i2, .bool s2, .slice p2 k2 c2, .slice q2 l2 d2, .int .i64 j2, .bool sz2, .slice pz2 kz2 cz2, .slice qz2 lz2 dz2, .bool e2] w'))
    (first | (refine HS.out _ ?_; first | (with_reducible exact HQ0.out.drew) | (with_reducible assumption) | (with_reducible refine Q4.st9 ?_ (by omega) (by omega); assumption)))
    (first
      | (refine (HO.out _ HQ0.out.drew.2.2.2.2).mono ?_; rintro e wa ⟨i4, s4, p4, k4, c4, q4, l4, d4, j4, sz4, pz4, kz4, cz4, qz4, lz4, dz4, e4, rfl, hE1, hB1⟩; have hQ1 := HQ0.out.drew.call hB1; have hV1 := (HV.out.2.2.1.drew).below hB1)
      | (go_at_call 106; refine (HR.out _ i4 s4 p4 k4 c4 q4 l4 d4 j4 sz4 pz4 kz4 cz4 qz4 lz4 dz4 e4 hQ1.2.2.2.2 hE1.out).mono ?_; rintro e wb ⟨i5, s5, p5, k5, c5, q5, l5, d5, j5, sz5, pz5, kz5, cz5, qz5, lz5, dz5, e5, rfl, hE2, hB2⟩; have hQ2 := hQ1.call hB2; have hV2 := hV1.below hB2; obtain ⟨g0, g1, g2, g3, g4, g5, g6, g7, g8, f0, f1, f2, f3, f4, f5, f6, f7, f8⟩ := hV2.cells9))
  rename_i hHeld
  clear hHeld
  have HE := hid (And.intro hV2 (And.intro hE2.out hQ2.2.2.2.2))
  clear hQ1 hQ2 hV1 hV2 hB1 hB2 hE1 hE2
  go_wp2_with fail
  exact rounded1_ret rfl (HE.out.1.stores [.int .i64 i5, .bool s5, .slice p5 k5 c5, .slice q5 l5 d5, .int .i64 j5, .bool sz5, .slice pz5 kz5 cz5, .slice qz5 lz5 dz5, .bool e5] rfl ⟨trivial, trivial, trivial, trivial, trivial, trivial, trivial, trivial, trivial, trivial⟩) ⟨i5, s5, p5, k5, c5, q5, l5, d5, j5, sz5, pz5, kz5, cz5, qz5, lz5, dz5, e5, rfl, hid (SRep.stores (k := 0) (l := [.int .i64 i5, .bool s5, .slice p5 k5 c5, .slice q5 l5 d5, .int .i64 j5, .bool sz5, .slice pz5 kz5 cz5, .slice qz5 lz5 dz5, .bool e5]) HE.out.2.1 HE.out.1 ⟨trivial, trivial, trivial, trivial, trivial, trivial, trivial, trivial, trivial, trivial⟩), Below.stores (k := 0) (l := [.int .i64 i5, .bool s5, .slice p5 k5 c5, .slice q5 l5 d5, .int .i64 j5, .bool sz5, .slice pz5 kz5 cz5, .slice qz5 lz5 dz5, .bool e5]) HE.out.2.2 HI.out⟩
end Go.Proofs.YtgjjcmclikiojaaGreatDoor
