/- Whether a number is in an interval: the reference. -/
import Derived.Test.YtgjjcmclikiojaaGreatDoorHasS
namespace Go.Proofs.YtgjjcmclikiojaaGreatDoor
open Go.RowKit Dg

/-- What an operation on one interval begins with. -/
def jonec (a : (Bool × Nat × Nat) × (Bool × Nat × Nat) × Bool × Bool) (p : Int) : Int := if ilarge a then 1 else if p < 0 ∨ 128 < p then 2 else 0
def jzero : (Bool × Nat × Nat) × (Bool × Nat × Nat) × Bool × Bool × Bool := ((false, 0, 0), (false, 0, 0), false, false, false)
def jone (a : (Bool × Nat × Nat) × (Bool × Nat × Nat) × Bool × Bool) (p : Int) : (Bool × Nat × Nat) × (Bool × Nat × Nat) × Bool × Bool × Bool := if jonec a p = 0 then jof a else jzero
theorem JRep.zero (w : World) : JRep w (.agg #[.bool false, .slice none 0 0, .slice none 0 0, .bool false, .slice none 0 0, .slice none 0 0, .bool false, .bool false, .bool false]) jzero :=
  ⟨_, _, _, _, _, _, _, _, _, _, _, _, _, _, _, _, _, rfl, QNorm.zero _, QNorm.zero _, rfl, rfl, rfl⟩

theorem jOne_ret {W : World} {B : Nat} {a0 a1 a2 a3 a4 a5 a6 a7 a8 ev : Value} {tm : Array Value} {R : Ending → World → Prop} (h2 : tm[4]?.getD undef = .pointer (some ⟨B, 0, none⟩)) (h3 : tm[5]?.getD undef = ev) (hV : Box W B #[a0, a1, a2, a3, a4, a5, a6, a7, a8]) (hR : R (.returned (.tuple #[.agg #[a0, a1, a2, a3, a4, a5, a6, a7, a8], ev])) W) :
    bodyPost Tryz.prog Tryz.f58 R .ret { tmps := tm, defers := [] } W := by
  obtain ⟨g0, g1, g2, g3, g4, g5, g6, g7, g8, _⟩ := hV.cells9
  exact bodyPost_ret (v := .tuple #[.agg #[a0, a1, a2, a3, a4, a5, a6, a7, a8], ev]) (by simp [results, Tryz.results58, go_sem, h2, h3, g0, g1, g2, g3, g4, g5, g6, g7, g8]) rfl hR
set_option maxHeartbeats 2000000 in
set_option maxRecDepth 100000 in
theorem jOne_large (s1 : Bool) (p1 : Option Addr) (k1 c1 : Nat) (q1 : Option Addr) (l1 d1 : Nat) (sz1 : Bool) (pz1 : Option Addr) (kz1 cz1 : Nat) (qz1 : Option Addr) (lz1 dz1 : Nat) (x1 : Bool) (y1 : Bool) (a b : Bool × Nat × Nat) (p : Int) (w : World) (ha : NRep w (.agg #[.bool s1, .slice p1 k1 c1, .slice q1 l1 d1]) a) (hb : NRep w (.agg #[.bool sz1, .slice pz1 kz1 cz1, .slice qz1 lz1 dz1]) b) (h : ilarge (a, b, x1, y1) = true) :
    Calls Tryz.prog 58 #[.agg #[.bool s1, .slice p1 k1 c1, .slice q1 l1 d1, .bool sz1, .slice pz1 kz1 cz1, .slice qz1 lz1 dz1, .bool x1, .bool y1], .int .i64 p] w fun e w' => e = .returned (.tuple #[.agg #[.bool false, .slice none 0 0, .slice none 0 0, .bool false, .slice none 0 0, .slice none 0 0, .bool false, .bool false, .bool false], .int .i64 1]) ∧ Below w.heap.size w w' := by
  have HL := hid (fun (W : World) (hW : Below w.heap.size w W) => jLarge_any s1 p1 k1 c1 q1 l1 d1 sz1 pz1 kz1 cz1 qz1 lz1 dz1 x1 y1 a b W (ha.below hW) (hb.below hW))
  rw [h] at HL
  clear ha hb h
  go_enter Tryz.func58, Tryz.ntmps58
  go_wp2_with fail
  have HV := hid (pre2 w [.bool s1, .slice p1 k1 c1, .slice q1 l1 d1, .bool sz1, .slice pz1 kz1 cz1, .slice qz1 lz1 dz1, .bool x1, .bool y1] [.bool false, .slice none 0 0, .slice none 0 0, .bool false, .slice none 0 0, .slice none 0 0, .bool false, .bool false, .bool false] 26 69 ⟨trivial, trivial, trivial, trivial, trivial, trivial, trivial, trivial, trivial⟩ ⟨trivial, trivial, trivial, trivial, trivial, trivial, trivial, trivial, trivial, trivial⟩)
  generalize (w.alloc (.cells #[.bool s1, .slice p1 k1 c1, .slice q1 l1 d1, .bool sz1, .slice pz1 kz1 cz1, .slice qz1 lz1 dz1, .bool x1, .bool y1] 26)).alloc (.cells #[.bool false, .slice none 0 0, .slice none 0 0, .bool false, .slice none 0 0, .slice none 0 0, .bool false, .bool false, .bool false] 69) = W0 at *
  refine (HL.out _ HV.out.2.2).mono ?_
  rintro e w1 ⟨rfl, hB1⟩
  have HE := hid (And.intro (HV.out.2.1.below hB1) (HV.out.2.2.trans (hB1.mono HV.out.2.2.size)))
  clear hB1
  obtain ⟨g0, g1, g2, g3, g4, g5, g6, g7, g8, f0, f1, f2, f3, f4, f5, f6, f7, f8⟩ := HE.out.1.cells9
  go_wp2_with fail
  exact jOne_ret rfl rfl (HE.out.1.stores [.bool false, .slice none 0 0, .slice none 0 0, .bool false, .slice none 0 0, .slice none 0 0, .bool false, .bool false, .bool false] rfl ⟨trivial, trivial, trivial, trivial, trivial, trivial, trivial, trivial, trivial, trivial⟩) ⟨rfl, Below.stores (k := 0) (l := [.bool false, .slice none 0 0, .slice none 0 0, .bool false, .slice none 0 0, .slice none 0 0, .bool false, .bool false, .bool false]) HE.out.2 (by omega)⟩

set_option maxHeartbeats 2000000 in
set_option maxRecDepth 100000 in
theorem jOne_ok (s1 : Bool) (p1 : Option Addr) (k1 c1 : Nat) (q1 : Option Addr) (l1 d1 : Nat) (sz1 : Bool) (pz1 : Option Addr) (kz1 cz1 : Nat) (qz1 : Option Addr) (lz1 dz1 : Nat) (x1 : Bool) (y1 : Bool) (a b : Bool × Nat × Nat) (p : Int) (w : World) (ha : NRep w (.agg #[.bool s1, .slice p1 k1 c1, .slice q1 l1 d1]) a) (hb : NRep w (.agg #[.bool sz1, .slice pz1 kz1 cz1, .slice qz1 lz1 dz1]) b) (h1 : large a.2.1 a.2.2 = false) (h2 : large b.2.1 b.2.2 = false) (h0 : 0 ≤ p) (h128 : p ≤ 128) :
    Calls Tryz.prog 58 #[.agg #[.bool s1, .slice p1 k1 c1, .slice q1 l1 d1, .bool sz1, .slice pz1 kz1 cz1, .slice qz1 lz1 dz1, .bool x1, .bool y1], .int .i64 p] w fun e w' => ∃ s2 p2 k2 c2 q2 l2 d2 sz2 pz2 kz2 cz2 qz2 lz2 dz2 x2 y2 e2, e = .returned (.tuple #[.agg #[.bool s2, .slice p2 k2 c2, .slice q2 l2 d2, .bool sz2, .slice pz2 kz2 cz2, .slice qz2 lz2 dz2, .bool x2, .bool y2, .bool e2], .int .i64 0]) ∧ Hid (JRep w' (.agg #[.bool s2, .slice p2 k2 c2, .slice q2 l2 d2, .bool sz2, .slice pz2 kz2 cz2, .slice qz2 lz2 dz2, .bool x2, .bool y2, .bool e2]) (jof (a, b, x1, y1))) ∧ Below w.heap.size w w' := by
  have HL := hid (fun (W : World) (hW : Below w.heap.size w W) => jLarge_any s1 p1 k1 c1 q1 l1 d1 sz1 pz1 kz1 cz1 qz1 lz1 dz1 x1 y1 a b W (ha.below hW) (hb.below hW))
  have hf : ilarge (a, b, x1, y1) = false := by
    show (large a.2.1 a.2.2 || large b.2.1 b.2.2) = false
    rw [h1, h2]; rfl
  rw [hf] at HL
  have HO := hid (fun (W : World) (hW : Below w.heap.size w W) => jOf_any s1 p1 k1 c1 q1 l1 d1 sz1 pz1 kz1 cz1 qz1 lz1 dz1 x1 y1 a b W (ha.below hW) (hb.below hW) h1 h2)
  obtain ⟨r, hr⟩ : ∃ r, r = jof (a, b, x1, y1) := ⟨_, rfl⟩
  rw [← hr] at HO ⊢
  clear ha hb h1 h2 hf hr
  go_enter Tryz.func58, Tryz.ntmps58
  go_wp2_with fail
  have HV := hid (pre2 w [.bool s1, .slice p1 k1 c1, .slice q1 l1 d1, .bool sz1, .slice pz1 kz1 cz1, .slice qz1 lz1 dz1, .bool x1, .bool y1] [.bool false, .slice none 0 0, .slice none 0 0, .bool false, .slice none 0 0, .slice none 0 0, .bool false, .bool false, .bool false] 26 69 ⟨trivial, trivial, trivial, trivial, trivial, trivial, trivial, trivial, trivial⟩ ⟨trivial, trivial, trivial, trivial, trivial, trivial, trivial, trivial, trivial, trivial⟩)
  generalize (w.alloc (.cells #[.bool s1, .slice p1 k1 c1, .slice q1 l1 d1, .bool sz1, .slice pz1 kz1 cz1, .slice qz1 lz1 dz1, .bool x1, .bool y1] 26)).alloc (.cells #[.bool false, .slice none 0 0, .slice none 0 0, .bool false, .slice none 0 0, .slice none 0 0, .bool false, .bool false, .bool false] 69) = W0 at *
  refine (HL.out _ HV.out.2.2).mono ?_
  rintro e w1 ⟨rfl, hB1⟩
  have HE := hid hB1
  obtain ⟨m0, m1, m2, m3, m4, m5, m6, m7, _⟩ := (HV.out.1.below hB1).cells8
  clear hB1
  go_wp2_with fail
  refine (HO.out _ (HV.out.2.2.trans (HE.out.mono HV.out.2.2.size))).mono ?_
  rintro e w2 ⟨s2, p2, k2, c2, q2, l2, d2, sz2, pz2, kz2, cz2, qz2, lz2, dz2, x2, y2, e2, rfl, hJ, hB2⟩
  have HE2 := hid (And.intro (HV.out.2.1.below (held_any HE.out hB2)) (HV.out.2.2.trans ((held_any HE.out hB2).mono HV.out.2.2.size)))
  clear hB2
  obtain ⟨g0, g1, g2, g3, g4, g5, g6, g7, g8, f0, f1, f2, f3, f4, f5, f6, f7, f8⟩ := HE2.out.1.cells9
  go_wp2_with fail
  exact jOne_ret rfl rfl (HE2.out.1.stores [.bool s2, .slice p2 k2 c2, .slice q2 l2 d2, .bool sz2, .slice pz2 kz2 cz2, .slice qz2 lz2 dz2, .bool x2, .bool y2, .bool e2] rfl ⟨trivial, trivial, trivial, trivial, trivial, trivial, trivial, trivial, trivial, trivial⟩) ⟨s2, p2, k2, c2, q2, l2, d2, sz2, pz2, kz2, cz2, qz2, lz2, dz2, x2, y2, e2, rfl, hid (JRep.stores (k := 0) (l := [.bool s2, .slice p2 k2 c2, .slice q2 l2 d2, .bool sz2, .slice pz2 kz2 cz2, .slice qz2 lz2 dz2, .bool x2, .bool y2, .bool e2]) hJ.out HE2.out.1 ⟨trivial, trivial, trivial, trivial, trivial, trivial, trivial, trivial, trivial, trivial⟩), Below.stores (k := 0) (l := [.bool s2, .slice p2 k2 c2, .slice q2 l2 d2, .bool sz2, .slice pz2 kz2 cz2, .slice qz2 lz2 dz2, .bool x2, .bool y2, .bool e2]) HE2.out.2 (by omega)⟩

/-- What an end of a set of the reference may be. -/
def QOk (t : Bool × Nat × Nat) : Prop := IsFr t ∧ t.2.1 < B16 ^ 1000 ∧ t.2.2 < B16 ^ 1000
theorem rcmp_ok (v1 v2 : Value) (x y : Bool × Nat × Nat) (w : World) (q1 : QNorm w v1 x) (q2 : QNorm w v2 y) (hx : QOk x) (hy : QOk y) :
    Calls Tryz.prog 124 #[v1, v2] w fun e w' => e = .returned (.int .i64 (fcmp x y)) ∧ Below w.heap.size w w' :=
  rCmp_any v1 v2 x y 1000 w q1 q2 hx.2.1 hx.2.2 hy.2.1 hy.2.2 (by omega) hx.1.pos hy.1.pos

/-- Whether a number is in a set of the reference. -/
def jin (r : (Bool × Nat × Nat) × (Bool × Nat × Nat) × Bool × Bool × Bool) (t : Bool × Nat × Nat) : Bool :=
  !r.2.2.2.2 && (r.2.2.1 || decide (fcmp r.1 t ≤ 0)) && (r.2.2.2.1 || decide (fcmp t r.2.1 ≤ 0))

set_option maxHeartbeats 4000000 in
theorem jIn_any (s1 : Bool) (p1 : Option Addr) (k1 c1 : Nat) (q1 : Option Addr) (l1 d1 : Nat) (sz1 : Bool) (pz1 : Option Addr) (kz1 cz1 : Nat) (qz1 : Option Addr) (lz1 dz1 : Nat) (x1 : Bool) (y1 : Bool) (e1 : Bool) (s2 : Bool) (p2 : Option Addr) (k2 c2 : Nat) (q2 : Option Addr) (l2 d2 : Nat) (r : (Bool × Nat × Nat) × (Bool × Nat × Nat) × Bool × Bool × Bool) (t : Bool × Nat × Nat) (w : World) (h : JRep w (.agg #[.bool s1, .slice p1 k1 c1, .slice q1 l1 d1, .bool sz1, .slice pz1 kz1 cz1, .slice qz1 lz1 dz1, .bool x1, .bool y1, .bool e1]) r) (h' : QNorm w (.agg #[.bool s2, .slice p2 k2 c2, .slice q2 l2 d2]) t) (ht : QOk t)
    (hl : e1 = false → x1 = false → QOk r.1) (hh : e1 = false → y1 = false → QOk r.2.1) :
    Calls Tryz.prog 60 #[.agg #[.bool s1, .slice p1 k1 c1, .slice q1 l1 d1, .bool sz1, .slice pz1 kz1 cz1, .slice qz1 lz1 dz1, .bool x1, .bool y1, .bool e1], .agg #[.bool s2, .slice p2 k2 c2, .slice q2 l2 d2]] w fun e w' => e = .returned (.bool (jin r t)) ∧ Below w.heap.size w w' := by
  have hp := h.parts
  obtain ⟨qa1, qa2, ex, ey, ee⟩ := hp
  have hj : jin r t = (!e1 && (x1 || decide (fcmp r.1 t ≤ 0)) && (y1 || decide (fcmp t r.2.1 ≤ 0))) := by rw [ex, ey, ee]; rfl
  rw [hj]
  have HL := hid (fun (he : e1 = false) (hx : x1 = false) (W : World) (hW : Below w.heap.size w W) => rcmp_ok (.agg #[.bool s1, .slice p1 k1 c1, .slice q1 l1 d1]) (.agg #[.bool s2, .slice p2 k2 c2, .slice q2 l2 d2]) r.1 t W (qa1.below hW) (h'.below hW) (hl he hx) ht)
  have HH := hid (fun (he : e1 = false) (hy : y1 = false) (W : World) (hW : Below w.heap.size w W) => rcmp_ok (.agg #[.bool s2, .slice p2 k2 c2, .slice q2 l2 d2]) (.agg #[.bool sz1, .slice pz1 kz1 cz1, .slice qz1 lz1 dz1]) t r.2.1 W (h'.below hW) (qa2.below hW) ht (hh he hy))
  obtain ⟨cl, hcl⟩ : ∃ c, c = fcmp r.1 t := ⟨_, rfl⟩
  obtain ⟨ch, hch⟩ : ∃ c, c = fcmp t r.2.1 := ⟨_, rfl⟩
  rw [← hcl] at HL ⊢
  rw [← hch] at HH ⊢
  obtain ⟨res, hres⟩ : ∃ b, b = (!e1 && (x1 || decide (cl ≤ 0)) && (y1 || decide (ch ≤ 0))) := ⟨_, rfl⟩
  rw [← hres]
  have HX := hid hres
  clear h h' ht hl hh qa1 qa2 ex ey ee hj hcl hch hres
  cases e1
  case true =>
    have hr : res = false := by rw [HX.out]; rfl
    rw [hr]
    clear hr HX
    go_enter Tryz.func60, Tryz.ntmps60
    go_wp2_with fail
    go_ret
    exact ⟨rfl, below_alloc2 _ _ _⟩
  case false =>
    cases x1
    case false =>
      by_cases hl : cl ≤ 0
      · cases y1
        case false =>
          have hr : res = decide (ch ≤ 0) := by rw [HX.out, decide_eq_true hl]; rfl
          have HR := hid hr
          clear hr HX
          go_enter Tryz.func60, Tryz.ntmps60
          go_wp2_with fail
          have HV := hid (pre2 w [.bool s1, .slice p1 k1 c1, .slice q1 l1 d1, .bool sz1, .slice pz1 kz1 cz1, .slice qz1 lz1 dz1, .bool false, .bool false, .bool false] [.bool s2, .slice p2 k2 c2, .slice q2 l2 d2] 69 67 ⟨trivial, trivial, trivial, trivial, trivial, trivial, trivial, trivial, trivial, trivial⟩ ⟨trivial, trivial, trivial, trivial⟩)
          generalize (w.alloc (.cells #[.bool s1, .slice p1 k1 c1, .slice q1 l1 d1, .bool sz1, .slice pz1 kz1 cz1, .slice qz1 lz1 dz1, .bool false, .bool false, .bool false] 69)).alloc (.cells #[.bool s2, .slice p2 k2 c2, .slice q2 l2 d2] 67) = W0 at *
          refine (HL.out (by trivial) (by trivial) _ HV.out.2.2).mono ?_
          rintro e w1 ⟨rfl, hB1⟩
          have HE := hid (HV.out.2.2.trans (hB1.mono HV.out.2.2.size))
          obtain ⟨m0, m1, m2, m3, m4, m5, m6, m7, m8, _⟩ := (HV.out.1.below hB1).cells9
          obtain ⟨n0, n1, n2, _⟩ := (HV.out.2.1.below hB1).cells3
          clear hB1
          go_wp2_with fail
          refine (HH.out (by trivial) (by trivial) _ HE.out).mono ?_
          rintro e w2 ⟨rfl, hB2⟩
          have HE2 := hid (HE.out.trans (hB2.mono HE.out.size))
          clear hB2
          go_wp2_with fail
          go_ret
          exact ⟨by (rw [HR.out]; try rfl), HE2.out⟩
        case true =>
          have hr : res = true := by rw [HX.out, decide_eq_true hl]; rfl
          have HR := hid hr
          clear hr HX
          go_enter Tryz.func60, Tryz.ntmps60
          go_wp2_with fail
          have HV := hid (pre2 w [.bool s1, .slice p1 k1 c1, .slice q1 l1 d1, .bool sz1, .slice pz1 kz1 cz1, .slice qz1 lz1 dz1, .bool false, .bool true, .bool false] [.bool s2, .slice p2 k2 c2, .slice q2 l2 d2] 69 67 ⟨trivial, trivial, trivial, trivial, trivial, trivial, trivial, trivial, trivial, trivial⟩ ⟨trivial, trivial, trivial, trivial⟩)
          generalize (w.alloc (.cells #[.bool s1, .slice p1 k1 c1, .slice q1 l1 d1, .bool sz1, .slice pz1 kz1 cz1, .slice qz1 lz1 dz1, .bool false, .bool true, .bool false] 69)).alloc (.cells #[.bool s2, .slice p2 k2 c2, .slice q2 l2 d2] 67) = W0 at *
          refine (HL.out (by trivial) (by trivial) _ HV.out.2.2).mono ?_
          rintro e w1 ⟨rfl, hB1⟩
          have HE := hid (HV.out.2.2.trans (hB1.mono HV.out.2.2.size))
          obtain ⟨m0, m1, m2, m3, m4, m5, m6, m7, m8, _⟩ := (HV.out.1.below hB1).cells9
          obtain ⟨n0, n1, n2, _⟩ := (HV.out.2.1.below hB1).cells3
          clear hB1
          go_wp2_with fail
          go_ret
          exact ⟨by (rw [HR.out]; try rfl), HE.out⟩
      · have hr : res = false := by rw [HX.out, decide_eq_false hl]; rfl
        have HR := hid hr
        clear hr HX
        have hl' : decide (cl ≤ 0) = false := decide_eq_false hl
        go_enter Tryz.func60, Tryz.ntmps60
        go_wp2_with fail
        have HV := hid (pre2 w [.bool s1, .slice p1 k1 c1, .slice q1 l1 d1, .bool sz1, .slice pz1 kz1 cz1, .slice qz1 lz1 dz1, .bool false, .bool y1, .bool false] [.bool s2, .slice p2 k2 c2, .slice q2 l2 d2] 69 67 ⟨trivial, trivial, trivial, trivial, trivial, trivial, trivial, trivial, trivial, trivial⟩ ⟨trivial, trivial, trivial, trivial⟩)
        generalize (w.alloc (.cells #[.bool s1, .slice p1 k1 c1, .slice q1 l1 d1, .bool sz1, .slice pz1 kz1 cz1, .slice qz1 lz1 dz1, .bool false, .bool y1, .bool false] 69)).alloc (.cells #[.bool s2, .slice p2 k2 c2, .slice q2 l2 d2] 67) = W0 at *
        refine (HL.out (by trivial) (by trivial) _ HV.out.2.2).mono ?_
        rintro e w1 ⟨rfl, hB1⟩
        have HE := hid (HV.out.2.2.trans (hB1.mono HV.out.2.2.size))
        obtain ⟨m0, m1, m2, m3, m4, m5, m6, m7, m8, _⟩ := (HV.out.1.below hB1).cells9
        obtain ⟨n0, n1, n2, _⟩ := (HV.out.2.1.below hB1).cells3
        clear hB1
        go_wp2_with fail
        go_ret
        exact ⟨by (rw [HR.out]; try rfl), HE.out⟩
    case true =>
      cases y1
      case false =>
        have hr : res = decide (ch ≤ 0) := by rw [HX.out]; rfl
        have HR := hid hr
        go_enter Tryz.func60, Tryz.ntmps60
        go_wp2_with fail
        have HV := hid (pre2 w [.bool s1, .slice p1 k1 c1, .slice q1 l1 d1, .bool sz1, .slice pz1 kz1 cz1, .slice qz1 lz1 dz1, .bool true, .bool false, .bool false] [.bool s2, .slice p2 k2 c2, .slice q2 l2 d2] 69 67 ⟨trivial, trivial, trivial, trivial, trivial, trivial, trivial, trivial, trivial, trivial⟩ ⟨trivial, trivial, trivial, trivial⟩)
        generalize (w.alloc (.cells #[.bool s1, .slice p1 k1 c1, .slice q1 l1 d1, .bool sz1, .slice pz1 kz1 cz1, .slice qz1 lz1 dz1, .bool true, .bool false, .bool false] 69)).alloc (.cells #[.bool s2, .slice p2 k2 c2, .slice q2 l2 d2] 67) = W0 at *
        refine (HH.out (by trivial) (by trivial) _ HV.out.2.2).mono ?_
        rintro e w2 ⟨rfl, hB2⟩
        have HE2 := hid (HV.out.2.2.trans (hB2.mono HV.out.2.2.size))
        clear hB2
        go_wp2_with fail
        go_ret
        exact ⟨by (rw [HR.out]; try rfl), HE2.out⟩
      case true =>
        have hr : res = true := by rw [HX.out]; rfl
        have HR := hid hr
        clear hr HX
        rw [HR.out]
        go_enter Tryz.func60, Tryz.ntmps60
        go_wp2_with fail
        go_ret
        exact ⟨rfl, below_alloc2 _ _ _⟩
end Go.Proofs.YtgjjcmclikiojaaGreatDoor
