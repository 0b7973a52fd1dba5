/- Both, Either, Within, Inside of the reference by their values; the program's are the same. Meet, Hull, Inside of both sides are the same: the mathematics. Meet and Hull of the reference. The law IntervalMeets. -/
import Derived.Test.YtimjoejkjgklaaaGreatDoorBotJ
import Derived.Test.YtimjoejkjgklaaaGreatDoorLimM
import Derived.Test.YtimjoejkjgklaaaGreatDoorAbB
import Derived.Test.YtimjoejkjgklaaaGreatDoorAwake
set_option maxHeartbeats 8000000
set_option maxRecDepth 100000
namespace Go.Proofs.YtimjoejkjgklaaaGreatDoor
open Go.RowKit Dg
theorem jBoth_e1 (s1 : Bool) (p1 : Option Addr) (k1 c1 : Nat) (q1 : Option Addr) (l1 d1 : Nat) (sz1 : Bool) (pz1 : Option Addr) (kz1 cz1 : Nat) (qz1 : Option Addr) (lz1 dz1 : Nat) (x1 y1 : Bool) (s2 : Bool) (p2 : Option Addr) (k2 c2 : Nat) (q2 : Option Addr) (l2 d2 : Nat) (sz2 : Bool) (pz2 : Option Addr) (kz2 cz2 : Nat) (qz2 : Option Addr) (lz2 dz2 : Nat) (x2 y2 : Bool) (e2 : Bool) (w : World) :
  Calls Tryz.prog 68 #[.agg #[.bool s1, .slice p1 k1 c1, .slice q1 l1 d1, .bool sz1, .slice pz1 kz1 cz1, .slice qz1 lz1 dz1, .bool x1, .bool y1, .bool true], .agg #[.bool s2, .slice p2 k2 c2, .slice q2 l2 d2, .bool sz2, .slice pz2 kz2 cz2, .slice qz2 lz2 dz2, .bool x2, .bool y2, .bool e2]] w fun e w' => ∃ s3 p3 k3 c3 q3 l3 d3 sz3 pz3 kz3 cz3 qz3 lz3 dz3 x3 y3 e3, e = .returned (.agg #[.bool s3, .slice p3 k3 c3, .slice q3 l3 d3, .bool sz3, .slice pz3 kz3 cz3, .slice qz3 lz3 dz3, .bool x3, .bool y3, .bool e3]) ∧ Hid (JRep w' (.agg #[.bool s3, .slice p3 k3 c3, .slice q3 l3 d3, .bool sz3, .slice pz3 kz3 cz3, .slice qz3 lz3 dz3, .bool x3, .bool y3, .bool e3]) jnone) ∧ Below w.heap.size w w' := by
 go_enter Tryz.func68, Tryz.ntmps68
 go_wp2_with fail
 generalize hA : World.alloc _ _ = W0
 have HV := hid (pre3_o hA nd_J nd_J nd_J)
 clear hA
 refine (jNone_any W0).mono ?_
 rintro e w3 ⟨rfl, hB3⟩
 have HE3 := hid (And.intro (HV.out.2.2.1.below hB3) (HV.out.2.2.2.trans (hB3.mono HV.out.2.2.2.size)))
 clear hB3
 obtain ⟨g0, g1, g2, g3, g4, g5, g6, g7, g8, n0, n1, n2, n3, n4, n5, n6, n7, n8⟩ := HE3.out.1.cells9
 go_wp2_with fail
 exact jBoth_ret rfl (HE3.out.1.stores [.bool false, .slice none 0 0, .slice none 0 0, .bool false, .slice none 0 0, .slice none 0 0, .bool false, .bool false, .bool true] rfl nd_J) ⟨_, _, _, _, _, _, _, _, _, _, _, _, _, _, _, _, _, rfl, hid (JRep.stores (k := 0) (l := [.bool false, .slice none 0 0, .slice none 0 0, .bool false, .slice none 0 0, .slice none 0 0, .bool false, .bool false, .bool true]) ⟨_, _, _, _, _, _, _, _, _, _, _, _, _, _, _, _, _, rfl, QNorm.zero _, QNorm.zero _, rfl, rfl, rfl⟩ HE3.out.1 nd_J), Below.stores (k := 0) (l := [.bool false, .slice none 0 0, .slice none 0 0, .bool false, .slice none 0 0, .slice none 0 0, .bool false, .bool false, .bool true]) HE3.out.2 (by omega)⟩
theorem jBoth_e2 (s1 : Bool) (p1 : Option Addr) (k1 c1 : Nat) (q1 : Option Addr) (l1 d1 : Nat) (sz1 : Bool) (pz1 : Option Addr) (kz1 cz1 : Nat) (qz1 : Option Addr) (lz1 dz1 : Nat) (x1 y1 : Bool) (s2 : Bool) (p2 : Option Addr) (k2 c2 : Nat) (q2 : Option Addr) (l2 d2 : Nat) (sz2 : Bool) (pz2 : Option Addr) (kz2 cz2 : Nat) (qz2 : Option Addr) (lz2 dz2 : Nat) (x2 y2 : Bool) (w : World) :
  Calls Tryz.prog 68 #[.agg #[.bool s1, .slice p1 k1 c1, .slice q1 l1 d1, .bool sz1, .slice pz1 kz1 cz1, .slice qz1 lz1 dz1, .bool x1, .bool y1, .bool false], .agg #[.bool s2, .slice p2 k2 c2, .slice q2 l2 d2, .bool sz2, .slice pz2 kz2 cz2, .slice qz2 lz2 dz2, .bool x2, .bool y2, .bool true]] w fun e w' => ∃ s3 p3 k3 c3 q3 l3 d3 sz3 pz3 kz3 cz3 qz3 lz3 dz3 x3 y3 e3, e = .returned (.agg #[.bool s3, .slice p3 k3 c3, .slice q3 l3 d3, .bool sz3, .slice pz3 kz3 cz3, .slice qz3 lz3 dz3, .bool x3, .bool y3, .bool e3]) ∧ Hid (JRep w' (.agg #[.bool s3, .slice p3 k3 c3, .slice q3 l3 d3, .bool sz3, .slice pz3 kz3 cz3, .slice qz3 lz3 dz3, .bool x3, .bool y3, .bool e3]) jnone) ∧ Below w.heap.size w w' := by
 go_enter Tryz.func68, Tryz.ntmps68
 go_wp2_with fail
 generalize hA : World.alloc _ _ = W0
 have HV := hid (pre3_o hA nd_J nd_J nd_J)
 clear hA
 refine (jNone_any W0).mono ?_
 rintro e w3 ⟨rfl, hB3⟩
 have HE3 := hid (And.intro (HV.out.2.2.1.below hB3) (HV.out.2.2.2.trans (hB3.mono HV.out.2.2.2.size)))
 clear hB3
 obtain ⟨g0, g1, g2, g3, g4, g5, g6, g7, g8, n0, n1, n2, n3, n4, n5, n6, n7, n8⟩ := HE3.out.1.cells9
 go_wp2_with fail
 exact jBoth_ret rfl (HE3.out.1.stores [.bool false, .slice none 0 0, .slice none 0 0, .bool false, .slice none 0 0, .slice none 0 0, .bool false, .bool false, .bool true] rfl nd_J) ⟨_, _, _, _, _, _, _, _, _, _, _, _, _, _, _, _, _, rfl, hid (JRep.stores (k := 0) (l := [.bool false, .slice none 0 0, .slice none 0 0, .bool false, .slice none 0 0, .slice none 0 0, .bool false, .bool false, .bool true]) ⟨_, _, _, _, _, _, _, _, _, _, _, _, _, _, _, _, _, rfl, QNorm.zero _, QNorm.zero _, rfl, rfl, rfl⟩ HE3.out.1 nd_J), Below.stores (k := 0) (l := [.bool false, .slice none 0 0, .slice none 0 0, .bool false, .slice none 0 0, .slice none 0 0, .bool false, .bool false, .bool true]) HE3.out.2 (by omega)⟩
def jtl (r t : (Bool × Nat × Nat) × (Bool × Nat × Nat) × Bool × Bool × Bool) : Bool := r.2.2.1 || (!t.2.2.1 && decide (0 < fcmp t.1 r.1))
def jth (r t : (Bool × Nat × Nat) × (Bool × Nat × Nat) × Bool × Bool × Bool) : Bool := r.2.2.2.1 || (!t.2.2.2.1 && decide (fcmp t.2.1 r.2.1 < 0))
def jboth (r t : (Bool × Nat × Nat) × (Bool × Nat × Nat) × Bool × Bool × Bool) : (Bool × Nat × Nat) × (Bool × Nat × Nat) × Bool × Bool × Bool := if r.2.2.2.2 || t.2.2.2.2 then jnone else if !(if jtl r t then t.2.2.1 else r.2.2.1) && !(if jth r t then t.2.2.2.1 else r.2.2.2.1) && decide (0 < fcmp (if jtl r t then t.1 else r.1) (if jth r t then t.2.1 else r.2.1)) then jnone else (if jtl r t then t.1 else r.1, if jth r t then t.2.1 else r.2.1, if jtl r t then t.2.2.1 else r.2.2.1, if jth r t then t.2.2.2.1 else r.2.2.2.1, false)
def jhull (r t : (Bool × Nat × Nat) × (Bool × Nat × Nat) × Bool × Bool × Bool) : (Bool × Nat × Nat) × (Bool × Nat × Nat) × Bool × Bool × Bool := if r.2.2.2.2 then t else if t.2.2.2.2 then r else (if r.2.2.1 || t.2.2.1 then (false, 0, 0) else qmin r.1 t.1, if r.2.2.2.1 || t.2.2.2.1 then (false, 0, 0) else qmax r.2.1 t.2.1, r.2.2.1 || t.2.2.1, r.2.2.2.1 || t.2.2.2.1, false)
def jwithin (r t : (Bool × Nat × Nat) × (Bool × Nat × Nat) × Bool × Bool × Bool) : Bool := if r.2.2.2.2 || t.2.2.2.2 then r.2.2.2.2 else (t.2.2.1 || (!r.2.2.1 && decide (fcmp t.1 r.1 ≤ 0))) && (t.2.2.2.1 || (!r.2.2.2.1 && decide (fcmp r.2.1 t.2.1 ≤ 0)))
theorem jWithin_any (s1 : Bool) (p1 : Option Addr) (k1 c1 : Nat) (q1 : Option Addr) (l1 d1 : Nat) (sz1 : Bool) (pz1 : Option Addr) (kz1 cz1 : Nat) (qz1 : Option Addr) (lz1 dz1 : Nat) (x1 : Bool) (y1 : Bool) (e1 : Bool) (s2 : Bool) (p2 : Option Addr) (k2 c2 : Nat) (q2 : Option Addr) (l2 d2 : Nat) (sz2 : Bool) (pz2 : Option Addr) (kz2 cz2 : Nat) (qz2 : Option Addr) (lz2 dz2 : Nat) (x2 : Bool) (y2 : Bool) (e2 : Bool) (r t : (Bool × Nat × Nat) × (Bool × Nat × Nat) × Bool × Bool × Bool) (w : World) (h : JRep w (.agg #[.bool s1, .slice p1 k1 c1, .slice q1 l1 d1, .bool sz1, .slice pz1 kz1 cz1, .slice qz1 lz1 dz1, .bool x1, .bool y1, .bool e1]) r) (h' : JRep w (.agg #[.bool s2, .slice p2 k2 c2, .slice q2 l2 d2, .bool sz2, .slice pz2 kz2 cz2, .slice qz2 lz2 dz2, .bool x2, .bool y2, .bool e2]) t) (hr : JGood r) (ht : JGood t) :
  Calls Tryz.prog 66 #[.agg #[.bool s1, .slice p1 k1 c1, .slice q1 l1 d1, .bool sz1, .slice pz1 kz1 cz1, .slice qz1 lz1 dz1, .bool x1, .bool y1, .bool e1], .agg #[.bool s2, .slice p2 k2 c2, .slice q2 l2 d2, .bool sz2, .slice pz2 kz2 cz2, .slice qz2 lz2 dz2, .bool x2, .bool y2, .bool e2]] w fun e w' => e = .returned (.bool (jwithin r t)) ∧ Below w.heap.size w w' := by
 obtain ⟨h1, h2, hi, hj, he⟩ := JRep.parts s1 p1 k1 c1 q1 l1 d1 sz1 pz1 kz1 cz1 qz1 lz1 dz1 x1 y1 e1 h
 obtain ⟨g1, g2, hi', hj', he'⟩ := JRep.parts s2 p2 k2 c2 q2 l2 d2 sz2 pz2 kz2 cz2 qz2 lz2 dz2 x2 y2 e2 h'
 clear h h'
 rcases hr.shape with rfl | ⟨A, B, x, y, hA, hB, _, rfl⟩
 ·have hz : e1 = true := he
  subst hz
  exact jWithin_e1 s1 p1 k1 c1 q1 l1 d1 sz1 pz1 kz1 cz1 qz1 lz1 dz1 x1 y1 s2 p2 k2 c2 q2 l2 d2 sz2 pz2 kz2 cz2 qz2 lz2 dz2 x2 y2 e2 w
 ·have hz : e1 = false := he
  subst hz
  rcases ht.shape with rfl | ⟨A', B', x', y', hA', hB', _, rfl⟩
  ·have hz : e2 = true := he'
   subst hz
   exact jWithin_e2 s1 p1 k1 c1 q1 l1 d1 sz1 pz1 kz1 cz1 qz1 lz1 dz1 x1 y1 s2 p2 k2 c2 q2 l2 d2 sz2 pz2 kz2 cz2 qz2 lz2 dz2 x2 y2 w
  ·have hz : e2 = false := he'
   have hx : x1 = x := hi
   have hy : y1 = y := hj
   have hx' : x2 = x' := hi'
   have hy' : y2 = y' := hj'
   subst hz hx hy hx' hy'
   clear hi hj he hi' hj' he' hr ht
   exact jWithin_go s1 p1 k1 c1 q1 l1 d1 sz1 pz1 kz1 cz1 qz1 lz1 dz1 x1 y1 s2 p2 k2 c2 q2 l2 d2 sz2 pz2 kz2 cz2 qz2 lz2 dz2 x2 y2 (fcmp (if x2 then (false, 0, 0) else A') (if x1 then (false, 0, 0) else A)) (fcmp (if y1 then (false, 0, 0) else B) (if y2 then (false, 0, 0) else B')) w
    (fun u v W hW => by subst u v; exact rcmp_ok (.agg #[.bool s2, .slice p2 k2 c2, .slice q2 l2 d2]) (.agg #[.bool s1, .slice p1 k1 c1, .slice q1 l1 d1]) A' A W (g1.below hW) (h1.below hW) (hA' rfl).ok (hA rfl).ok)
    (fun u v W hW => by subst u v; exact rcmp_ok (.agg #[.bool sz1, .slice pz1 kz1 cz1, .slice qz1 lz1 dz1]) (.agg #[.bool sz2, .slice pz2 kz2 cz2, .slice qz2 lz2 dz2]) B B' W (h2.below hW) (g2.below hW) (hB rfl).ok (hB' rfl).ok)
theorem jEither_any (s1 : Bool) (p1 : Option Addr) (k1 c1 : Nat) (q1 : Option Addr) (l1 d1 : Nat) (sz1 : Bool) (pz1 : Option Addr) (kz1 cz1 : Nat) (qz1 : Option Addr) (lz1 dz1 : Nat) (x1 : Bool) (y1 : Bool) (e1 : Bool) (s2 : Bool) (p2 : Option Addr) (k2 c2 : Nat) (q2 : Option Addr) (l2 d2 : Nat) (sz2 : Bool) (pz2 : Option Addr) (kz2 cz2 : Nat) (qz2 : Option Addr) (lz2 dz2 : Nat) (x2 : Bool) (y2 : Bool) (e2 : Bool) (r t : (Bool × Nat × Nat) × (Bool × Nat × Nat) × Bool × Bool × Bool) (w : World) (h : JRep w (.agg #[.bool s1, .slice p1 k1 c1, .slice q1 l1 d1, .bool sz1, .slice pz1 kz1 cz1, .slice qz1 lz1 dz1, .bool x1, .bool y1, .bool e1]) r) (h' : JRep w (.agg #[.bool s2, .slice p2 k2 c2, .slice q2 l2 d2, .bool sz2, .slice pz2 kz2 cz2, .slice qz2 lz2 dz2, .bool x2, .bool y2, .bool e2]) t) (hr : JGood r) (ht : JGood t) :
  Calls Tryz.prog 72 #[.agg #[.bool s1, .slice p1 k1 c1, .slice q1 l1 d1, .bool sz1, .slice pz1 kz1 cz1, .slice qz1 lz1 dz1, .bool x1, .bool y1, .bool e1], .agg #[.bool s2, .slice p2 k2 c2, .slice q2 l2 d2, .bool sz2, .slice pz2 kz2 cz2, .slice qz2 lz2 dz2, .bool x2, .bool y2, .bool e2]] w fun e w' => ∃ s3 p3 k3 c3 q3 l3 d3 sz3 pz3 kz3 cz3 qz3 lz3 dz3 x3 y3 e3, e = .returned (.agg #[.bool s3, .slice p3 k3 c3, .slice q3 l3 d3, .bool sz3, .slice pz3 kz3 cz3, .slice qz3 lz3 dz3, .bool x3, .bool y3, .bool e3]) ∧ Hid (JRep w' (.agg #[.bool s3, .slice p3 k3 c3, .slice q3 l3 d3, .bool sz3, .slice pz3 kz3 cz3, .slice qz3 lz3 dz3, .bool x3, .bool y3, .bool e3]) (jhull r t)) ∧ Below w.heap.size w w' := by
 have HR := h
 have HR' := h'
 obtain ⟨h1, h2, hi, hj, he⟩ := JRep.parts s1 p1 k1 c1 q1 l1 d1 sz1 pz1 kz1 cz1 qz1 lz1 dz1 x1 y1 e1 h
 obtain ⟨g1, g2, hi', hj', he'⟩ := JRep.parts s2 p2 k2 c2 q2 l2 d2 sz2 pz2 kz2 cz2 qz2 lz2 dz2 x2 y2 e2 h'
 clear h h'
 rcases hr.shape with rfl | ⟨A, B, x, y, hA, hB, _, rfl⟩
 ·have hz : e1 = true := he
  subst hz
  exact jEither_e1 s1 p1 k1 c1 q1 l1 d1 sz1 pz1 kz1 cz1 qz1 lz1 dz1 x1 y1 s2 p2 k2 c2 q2 l2 d2 sz2 pz2 kz2 cz2 qz2 lz2 dz2 x2 y2 e2 t w HR'
 ·have hz : e1 = false := he
  subst hz
  rcases ht.shape with rfl | ⟨A', B', x', y', hA', hB', _, rfl⟩
  ·have hz : e2 = true := he'
   subst hz
   exact jEither_e2 s1 p1 k1 c1 q1 l1 d1 sz1 pz1 kz1 cz1 qz1 lz1 dz1 x1 y1 s2 p2 k2 c2 q2 l2 d2 sz2 pz2 kz2 cz2 qz2 lz2 dz2 x2 y2 _ w HR
  ·have hz : e2 = false := he'
   have hx : x1 = x := hi
   have hy : y1 = y := hj
   have hx' : x2 = x' := hi'
   have hy' : y2 = y' := hj'
   subst hz hx hy hx' hy'
   clear hi hj he hi' hj' he' hr ht
   have hl : (x1 || x2) = false → ∀ W, Below w.heap.size w W → Calls Tryz.prog 115 #[.agg #[.bool s1, .slice p1 k1 c1, .slice q1 l1 d1], .agg #[.bool s2, .slice p2 k2 c2, .slice q2 l2 d2]] W fun e w' => ∃ s4 p4 k4 c4 q4 l4 d4, e = .returned (.agg #[.bool s4, .slice p4 k4 c4, .slice q4 l4 d4]) ∧ Hid (QNorm w' (.agg #[.bool s4, .slice p4 k4 c4, .slice q4 l4 d4]) (qmin (if x1 then (false, 0, 0) else A) (if x2 then (false, 0, 0) else A'))) ∧ Below W.heap.size W w' := by
    intro u W hW
    rw [Bool.or_eq_false_iff] at u
    obtain ⟨rfl, rfl⟩ := u
    exact jLeast_any s1 p1 k1 c1 q1 l1 d1 s2 p2 k2 c2 q2 l2 d2 A A' W (h1.below hW) (g1.below hW) (hA rfl).ok (hA' rfl).ok
   have hh : (y1 || y2) = false → ∀ W, Below w.heap.size w W → Calls Tryz.prog 122 #[.agg #[.bool sz1, .slice pz1 kz1 cz1, .slice qz1 lz1 dz1], .agg #[.bool sz2, .slice pz2 kz2 cz2, .slice qz2 lz2 dz2]] W fun e w' => ∃ s4 p4 k4 c4 q4 l4 d4, e = .returned (.agg #[.bool s4, .slice p4 k4 c4, .slice q4 l4 d4]) ∧ Hid (QNorm w' (.agg #[.bool s4, .slice p4 k4 c4, .slice q4 l4 d4]) (qmax (if y1 then (false, 0, 0) else B) (if y2 then (false, 0, 0) else B'))) ∧ Below W.heap.size W w' := by
    intro u W hW
    rw [Bool.or_eq_false_iff] at u
    obtain ⟨rfl, rfl⟩ := u
    exact jMost_any sz1 pz1 kz1 cz1 qz1 lz1 dz1 sz2 pz2 kz2 cz2 qz2 lz2 dz2 B B' W (h2.below hW) (g2.below hW) (hB rfl).ok (hB' rfl).ok
   clear HR HR'
   generalize hR : ((if x1 then (false, 0, 0) else A, if y1 then (false, 0, 0) else B, x1, y1, false) : (Bool × Nat × Nat) × (Bool × Nat × Nat) × Bool × Bool × Bool) = R
   generalize hT : ((if x2 then (false, 0, 0) else A', if y2 then (false, 0, 0) else B', x2, y2, false) : (Bool × Nat × Nat) × (Bool × Nat × Nat) × Bool × Bool × Bool) = T
   have q1 : qmin (if x1 then (false, 0, 0) else A) (if x2 then (false, 0, 0) else A') = qmin R.1 T.1 := by rw [← hR, ← hT]
   have q2 : qmax (if y1 then (false, 0, 0) else B) (if y2 then (false, 0, 0) else B') = qmax R.2.1 T.2.1 := by rw [← hR, ← hT]
   have ej : jhull R T = (if x1 || x2 then (false, 0, 0) else qmin R.1 T.1, if y1 || y2 then (false, 0, 0) else qmax R.2.1 T.2.1, x1 || x2, y1 || y2, false) := by rw [← hR, ← hT]; rfl
   rw [q1] at hl
   rw [q2] at hh
   rw [ej]
   clear hR hT q1 q2 ej
   cases hx : (x1 || x2) <;> cases hy : (y1 || y2)
   ·exact jEither_ff s1 p1 k1 c1 q1 l1 d1 sz1 pz1 kz1 cz1 qz1 lz1 dz1 x1 y1 s2 p2 k2 c2 q2 l2 d2 sz2 pz2 kz2 cz2 qz2 lz2 dz2 x2 y2 R T w hx hy (hl hx) (hh hy)
   ·exact jEither_ft s1 p1 k1 c1 q1 l1 d1 sz1 pz1 kz1 cz1 qz1 lz1 dz1 x1 y1 s2 p2 k2 c2 q2 l2 d2 sz2 pz2 kz2 cz2 qz2 lz2 dz2 x2 y2 R T w hx hy (hl hx)
   ·exact jEither_tf s1 p1 k1 c1 q1 l1 d1 sz1 pz1 kz1 cz1 qz1 lz1 dz1 x1 y1 s2 p2 k2 c2 q2 l2 d2 sz2 pz2 kz2 cz2 qz2 lz2 dz2 x2 y2 R T w hx hy (hh hy)
   ·exact jEither_tt s1 p1 k1 c1 q1 l1 d1 sz1 pz1 kz1 cz1 qz1 lz1 dz1 x1 y1 s2 p2 k2 c2 q2 l2 d2 sz2 pz2 kz2 cz2 qz2 lz2 dz2 x2 y2 w hx hy
theorem jBoth_any (s1 : Bool) (p1 : Option Addr) (k1 c1 : Nat) (q1 : Option Addr) (l1 d1 : Nat) (sz1 : Bool) (pz1 : Option Addr) (kz1 cz1 : Nat) (qz1 : Option Addr) (lz1 dz1 : Nat) (x1 : Bool) (y1 : Bool) (e1 : Bool) (s2 : Bool) (p2 : Option Addr) (k2 c2 : Nat) (q2 : Option Addr) (l2 d2 : Nat) (sz2 : Bool) (pz2 : Option Addr) (kz2 cz2 : Nat) (qz2 : Option Addr) (lz2 dz2 : Nat) (x2 : Bool) (y2 : Bool) (e2 : Bool) (r t : (Bool × Nat × Nat) × (Bool × Nat × Nat) × Bool × Bool × Bool) (w : World) (h : JRep w (.agg #[.bool s1, .slice p1 k1 c1, .slice q1 l1 d1, .bool sz1, .slice pz1 kz1 cz1, .slice qz1 lz1 dz1, .bool x1, .bool y1, .bool e1]) r) (h' : JRep w (.agg #[.bool s2, .slice p2 k2 c2, .slice q2 l2 d2, .bool sz2, .slice pz2 kz2 cz2, .slice qz2 lz2 dz2, .bool x2, .bool y2, .bool e2]) t) (hr : JGood r) (ht : JGood t) :
  Calls Tryz.prog 68 #[.agg #[.bool s1, .slice p1 k1 c1, .slice q1 l1 d1, .bool sz1, .slice pz1 kz1 cz1, .slice qz1 lz1 dz1, .bool x1, .bool y1, .bool e1], .agg #[.bool s2, .slice p2 k2 c2, .slice q2 l2 d2, .bool sz2, .slice pz2 kz2 cz2, .slice qz2 lz2 dz2, .bool x2, .bool y2, .bool e2]] w fun e w' => ∃ s3 p3 k3 c3 q3 l3 d3 sz3 pz3 kz3 cz3 qz3 lz3 dz3 x3 y3 e3, e = .returned (.agg #[.bool s3, .slice p3 k3 c3, .slice q3 l3 d3, .bool sz3, .slice pz3 kz3 cz3, .slice qz3 lz3 dz3, .bool x3, .bool y3, .bool e3]) ∧ Hid (JRep w' (.agg #[.bool s3, .slice p3 k3 c3, .slice q3 l3 d3, .bool sz3, .slice pz3 kz3 cz3, .slice qz3 lz3 dz3, .bool x3, .bool y3, .bool e3]) (jboth r t)) ∧ Below w.heap.size w w' := by
 obtain ⟨h1, h2, hi, hj, he⟩ := JRep.parts s1 p1 k1 c1 q1 l1 d1 sz1 pz1 kz1 cz1 qz1 lz1 dz1 x1 y1 e1 h
 obtain ⟨g1, g2, hi', hj', he'⟩ := JRep.parts s2 p2 k2 c2 q2 l2 d2 sz2 pz2 kz2 cz2 qz2 lz2 dz2 x2 y2 e2 h'
 clear h h'
 rcases hr.shape with rfl | ⟨A, B, x, y, hA, hB, _, rfl⟩
 ·have hz : e1 = true := he
  subst hz
  exact jBoth_e1 s1 p1 k1 c1 q1 l1 d1 sz1 pz1 kz1 cz1 qz1 lz1 dz1 x1 y1 s2 p2 k2 c2 q2 l2 d2 sz2 pz2 kz2 cz2 qz2 lz2 dz2 x2 y2 e2 w
 ·have hz : e1 = false := he
  subst hz
  rcases ht.shape with rfl | ⟨A', B', x', y', hA', hB', _, rfl⟩
  ·have hz : e2 = true := he'
   subst hz
   exact jBoth_e2 s1 p1 k1 c1 q1 l1 d1 sz1 pz1 kz1 cz1 qz1 lz1 dz1 x1 y1 s2 p2 k2 c2 q2 l2 d2 sz2 pz2 kz2 cz2 qz2 lz2 dz2 x2 y2 w
  ·have hz : e2 = false := he'
   have hx : x1 = x := hi
   have hy : y1 = y := hj
   have hx' : x2 = x' := hi'
   have hy' : y2 = y' := hj'
   subst hz hx hy hx' hy'
   clear hi hj he hi' hj' he' hr ht
   generalize hR : ((if x1 then (false, 0, 0) else A, if y1 then (false, 0, 0) else B, x1, y1, false) : (Bool × Nat × Nat) × (Bool × Nat × Nat) × Bool × Bool × Bool) = R
   generalize hT : ((if x2 then (false, 0, 0) else A', if y2 then (false, 0, 0) else B', x2, y2, false) : (Bool × Nat × Nat) × (Bool × Nat × Nat) × Bool × Bool × Bool) = T
   have fx1 : R.2.2.1 = x1 := by rw [← hR]
   have fy1 : R.2.2.2.1 = y1 := by rw [← hR]
   have fx2 : T.2.2.1 = x2 := by rw [← hT]
   have fy2 : T.2.2.2.1 = y2 := by rw [← hT]
   have fe : R.2.2.2.2 = false := by rw [← hR]
   have fe2 : T.2.2.2.2 = false := by rw [← hT]
   have oR : x1 = false → QOk R.1 := fun u => by rw [← hR]; subst u; exact (hA rfl).ok
   have oR2 : y1 = false → QOk R.2.1 := fun u => by rw [← hR]; subst u; exact (hB rfl).ok
   have oT : x2 = false → QOk T.1 := fun u => by rw [← hT]; subst u; exact (hA' rfl).ok
   have oT2 : y2 = false → QOk T.2.1 := fun u => by rw [← hT]; subst u; exact (hB' rfl).ok
   have n1 : QNorm w (.agg #[.bool s1, .slice p1 k1 c1, .slice q1 l1 d1]) R.1 := by rw [← hR]; exact h1
   have n2 : QNorm w (.agg #[.bool sz1, .slice pz1 kz1 cz1, .slice qz1 lz1 dz1]) R.2.1 := by rw [← hR]; exact h2
   have n3 : QNorm w (.agg #[.bool s2, .slice p2 k2 c2, .slice q2 l2 d2]) T.1 := by rw [← hT]; exact g1
   have n4 : QNorm w (.agg #[.bool sz2, .slice pz2 kz2 cz2, .slice qz2 lz2 dz2]) T.2.1 := by rw [← hT]; exact g2
   clear hR hT h1 h2 g1 g2 hA hB hA' hB'
   have etl : jtl R T = (x1 || (!x2 && decide (0 < fcmp T.1 R.1))) := by unfold jtl; rw [fx1, fx2]
   have eth : jth R T = (y1 || (!y2 && decide (fcmp T.2.1 R.2.1 < 0))) := by unfold jth; rw [fy1, fy2]
   have ej : jboth R T = (if !(if jtl R T then x2 else x1) && !(if jth R T then y2 else y1) && decide (0 < fcmp (if jtl R T then T.1 else R.1) (if jth R T then T.2.1 else R.2.1)) then jnone else (if jtl R T then T.1 else R.1, if jth R T then T.2.1 else R.2.1, if jtl R T then x2 else x1, if jth R T then y2 else y1, false)) := by
    unfold jboth
    rw [fe, fe2, fx1, fx2, fy1, fy2]
    rfl
   rw [ej]
   refine jBoth_in s1 p1 k1 c1 q1 l1 d1 sz1 pz1 kz1 cz1 qz1 lz1 dz1 x1 y1 s2 p2 k2 c2 q2 l2 d2 sz2 pz2 kz2 cz2 qz2 lz2 dz2 x2 y2 R T _ _ _ _ (jtl R T) (jth R T) (fcmp T.1 R.1) (fcmp T.2.1 R.2.1) _ w ?_ ?_ ?_ n1 n2 n3 n4 etl eth rfl rfl rfl rfl
   ·intro u v W hW
    exact rcmp_ok (.agg #[.bool s2, .slice p2 k2 c2, .slice q2 l2 d2]) (.agg #[.bool s1, .slice p1 k1 c1, .slice q1 l1 d1]) T.1 R.1 W (n3.below hW) (n1.below hW) (oT v) (oR u)
   ·intro u v W hW
    exact rcmp_ok (.agg #[.bool sz2, .slice pz2 kz2 cz2, .slice qz2 lz2 dz2]) (.agg #[.bool sz1, .slice pz1 kz1 cz1, .slice qz1 lz1 dz1]) T.2.1 R.2.1 W (n4.below hW) (n2.below hW) (oT2 v) (oR2 u)
   ·intro u v W s4 p4 k4 c4 q4 l4 d4 s5 p5 k5 c5 q5 l5 d5 m1 m2
    refine rcmp_ok (.agg #[.bool s4, .slice p4 k4 c4, .slice q4 l4 d4]) (.agg #[.bool s5, .slice p5 k5 c5, .slice q5 l5 d5]) _ _ W m1 m2 ?_ ?_
    ·cases hq : jtl R T
     ·rw [hq] at u; exact oR u
     ·rw [hq] at u; exact oT u
    ·cases hq : jth R T
     ·rw [hq] at v; exact oR2 v
     ·rw [hq] at v; exact oT2 v
def jin2 (a a' : (Bool × Nat × Nat) × (Bool × Nat × Nat) × Bool × Bool) : Bool := if ilarge a || ilarge a' then false else jwithin (jof a) (jof a')
theorem jInside_any (s1 : Bool) (p1 : Option Addr) (k1 c1 : Nat) (q1 : Option Addr) (l1 d1 : Nat) (sz1 : Bool) (pz1 : Option Addr) (kz1 cz1 : Nat) (qz1 : Option Addr) (lz1 dz1 : Nat) (x1 : Bool) (y1 : Bool) (s2 : Bool) (p2 : Option Addr) (k2 c2 : Nat) (q2 : Option Addr) (l2 d2 : Nat) (sz2 : Bool) (pz2 : Option Addr) (kz2 cz2 : Nat) (qz2 : Option Addr) (lz2 dz2 : Nat) (x2 : Bool) (y2 : Bool) (a b a' b' : Bool × Nat × Nat) (w : World) (ha : NRep w (.agg #[.bool s1, .slice p1 k1 c1, .slice q1 l1 d1]) a) (hb : NRep w (.agg #[.bool sz1, .slice pz1 kz1 cz1, .slice qz1 lz1 dz1]) b) (ha' : NRep w (.agg #[.bool s2, .slice p2 k2 c2, .slice q2 l2 d2]) a') (hb' : NRep w (.agg #[.bool sz2, .slice pz2 kz2 cz2, .slice qz2 lz2 dz2]) b') :
  Calls Tryz.prog 26 #[.agg #[.bool s1, .slice p1 k1 c1, .slice q1 l1 d1, .bool sz1, .slice pz1 kz1 cz1, .slice qz1 lz1 dz1, .bool x1, .bool y1], .agg #[.bool s2, .slice p2 k2 c2, .slice q2 l2 d2, .bool sz2, .slice pz2 kz2 cz2, .slice qz2 lz2 dz2, .bool x2, .bool y2]] w fun e w' => e = .returned (.tuple #[.bool (jin2 (a, b, x1, y1) (a', b', x2, y2)), .int .i64 (jcode2 (a, b, x1, y1) (a', b', x2, y2))]) ∧ Below w.heap.size w w' := by
 cases hL : (ilarge (a, b, x1, y1) || ilarge (a', b', x2, y2))
 ·have hc : jcode2 (a, b, x1, y1) (a', b', x2, y2) = 0 := by unfold jcode2; rw [hL]; rfl
  have hv : jin2 (a, b, x1, y1) (a', b', x2, y2) = jwithin (jof (a, b, x1, y1)) (jof (a', b', x2, y2)) := by unfold jin2; rw [hL]; rfl
  rw [hc, hv]
  rw [Bool.or_eq_false_iff] at hL
  have hl1 : (large a.2.1 a.2.2 || large b.2.1 b.2.2) = false := hL.1
  have hl2 : (large a'.2.1 a'.2.2 || large b'.2.1 b'.2.2) = false := hL.2
  rw [Bool.or_eq_false_iff] at hl1 hl2
  exact jInside_ok s1 p1 k1 c1 q1 l1 d1 sz1 pz1 kz1 cz1 qz1 lz1 dz1 x1 y1 s2 p2 k2 c2 q2 l2 d2 sz2 pz2 kz2 cz2 qz2 lz2 dz2 x2 y2 (jof (a, b, x1, y1)) (jof (a', b', x2, y2)) _ w
   (fun W s3 p3 k3 c3 q3 l3 d3 sz3 pz3 kz3 cz3 qz3 lz3 dz3 x3 y3 e3 s4 p4 k4 c4 q4 l4 d4 sz4 pz4 kz4 cz4 qz4 lz4 dz4 x4 y4 e4 g g' => jWithin_any s3 p3 k3 c3 q3 l3 d3 sz3 pz3 kz3 cz3 qz3 lz3 dz3 x3 y3 e3 s4 p4 k4 c4 q4 l4 d4 sz4 pz4 kz4 cz4 qz4 lz4 dz4 x4 y4 e4 _ _ W g g' (JGood.of hl1.1 hl1.2) (JGood.of hl2.1 hl2.2)) fun W hW =>
   jTwo_ok s1 p1 k1 c1 q1 l1 d1 sz1 pz1 kz1 cz1 qz1 lz1 dz1 x1 y1 s2 p2 k2 c2 q2 l2 d2 sz2 pz2 kz2 cz2 qz2 lz2 dz2 x2 y2 a b a' b' 0 W (ha.below hW) (hb.below hW) (ha'.below hW) (hb'.below hW) hl1.1 hl1.2 hl2.1 hl2.2 (by omega) (by omega)
 ·have hc : jcode2 (a, b, x1, y1) (a', b', x2, y2) = 1 := by unfold jcode2; rw [hL]; rfl
  have hv : jin2 (a, b, x1, y1) (a', b', x2, y2) = false := by unfold jin2; rw [hL]; rfl
  rw [hc, hv]
  exact jInside_err s1 p1 k1 c1 q1 l1 d1 sz1 pz1 kz1 cz1 qz1 lz1 dz1 x1 y1 s2 p2 k2 c2 q2 l2 d2 sz2 pz2 kz2 cz2 qz2 lz2 dz2 x2 y2 w fun W hW => by
   cases hl : ilarge (a, b, x1, y1)
   ·rw [hl, Bool.false_or] at hL
    exact jTwo_l2 s1 p1 k1 c1 q1 l1 d1 sz1 pz1 kz1 cz1 qz1 lz1 dz1 x1 y1 s2 p2 k2 c2 q2 l2 d2 sz2 pz2 kz2 cz2 qz2 lz2 dz2 x2 y2 a b a' b' 0 W (ha.below hW) (hb.below hW) (ha'.below hW) (hb'.below hW) hl hL
   ·exact jTwo_l1 s1 p1 k1 c1 q1 l1 d1 sz1 pz1 kz1 cz1 qz1 lz1 dz1 x1 y1 s2 p2 k2 c2 q2 l2 d2 sz2 pz2 kz2 cz2 qz2 lz2 dz2 x2 y2 a b 0 W (ha.below hW) (hb.below hW) hl
end Go.Proofs.YtimjoejkjgklaaaGreatDoor
namespace Go.Proofs.YtimjoejkjgklaaaGreatDoor
open Go.RowKit Dg
theorem qmax_l (a b : Bool × Nat × Nat) : fcmp a (qmax a b) ≤ 0 := by
 unfold Go.Proofs.YtimjoejkjgklaaaGreatDoor.qmax
 split
 case isTrue h =>
  have := fcmp_swap_pos b a
  omega
 case isFalse h => rw [fcmp_selfM]; omega
theorem jhull_good {J K : (Bool × Nat × Nat) × (Bool × Nat × Nat) × Bool × Bool × Bool} (h : JGood J) (h' : JGood K) : JGood (jhull J K) := by
 rcases h.shape with rfl | ⟨A, B, x, y, hA, hB, ho, rfl⟩
 ·exact h'
 ·rcases h'.shape with rfl | ⟨A', B', x', y', hA', hB', ho', rfl⟩
  ·exact h
  ·clear h h'
   have o3 : x = false → x' = false → y = false → y' = false → fcmp (qmin A A') (qmax B B') ≤ 0 := fun u v t t' =>
    fle3 ((hA u).qmin (hA' v)) (hA u) ((hB t).qmax (hB' t')) (qmin_l (hA u) (hA' v)) (fle3 (hA u) (hB t) ((hB t).qmax (hB' t')) (ho u t) (qmax_l _ _))
   refine .inr ⟨rfl, ?_, ?_, ?_⟩
   ·cases x <;> cases x'
    ·exact .inr ⟨rfl, (hA rfl).qmin (hA' rfl)⟩
    ·exact .inl ⟨rfl, rfl⟩
    ·exact .inl ⟨rfl, rfl⟩
    ·exact .inl ⟨rfl, rfl⟩
   ·cases y <;> cases y'
    ·exact .inr ⟨rfl, (hB rfl).qmax (hB' rfl)⟩
    ·exact .inl ⟨rfl, rfl⟩
    ·exact .inl ⟨rfl, rfl⟩
    ·exact .inl ⟨rfl, rfl⟩
   ·intro u v
    have u' : (x || x') = false := u
    have v' : (y || y') = false := v
    rw [Bool.or_eq_false_iff] at u' v'
    obtain ⟨rfl, rfl⟩ := u'
    obtain ⟨rfl, rfl⟩ := v'
    exact o3 rfl rfl rfl rfl
def jpart (r t : (Bool × Nat × Nat) × (Bool × Nat × Nat) × Bool × Bool × Bool) : (Bool × Nat × Nat) × (Bool × Nat × Nat) × Bool × Bool × Bool := (if jtl r t then t.1 else r.1, if jth r t then t.2.1 else r.2.1, if jtl r t then t.2.2.1 else r.2.2.1, if jth r t then t.2.2.2.1 else r.2.2.2.1, false)
def jbad (r : (Bool × Nat × Nat) × (Bool × Nat × Nat) × Bool × Bool × Bool) : Bool := !r.2.2.1 && !r.2.2.2.1 && decide (0 < fcmp r.1 r.2.1)
theorem jboth_eq {r t : (Bool × Nat × Nat) × (Bool × Nat × Nat) × Bool × Bool × Bool} (h : r.2.2.2.2 = false) (h' : t.2.2.2.2 = false) : jboth r t = if jbad (jpart r t) then jnone else jpart r t := by
 unfold jboth
 rw [h, h']
 rfl
theorem jbad_eq {L U : Bool × Nat × Nat} {u v : Bool} : jbad (if u then (false, 0, 0) else L, if v then (false, 0, 0) else U, u, v, false) = (!u && !v && decide (0 < fcmp L U)) := by
 cases u <;> cases v <;> rfl
theorem jpart_shape {A B A' B' : Bool × Nat × Nat} {x y x' y' : Bool} (hA : x = false → QFit A) (hB : y = false → QFit B) (hA' : x' = false → QFit A') (hB' : y' = false → QFit B') :
  ∃ L U u v, (u = false → QFit L) ∧ (v = false → QFit U) ∧
   jpart (if x then (false, 0, 0) else A, if y then (false, 0, 0) else B, x, y, false) (if x' then (false, 0, 0) else A', if y' then (false, 0, 0) else B', x', y', false) = (if u then (false, 0, 0) else L, if v then (false, 0, 0) else U, u, v, false) ∧
   emax (if x then (-1, false, 0, 0) else (0, A)) (if x' then (-1, false, 0, 0) else (0, A')) = (if u then (-1, false, 0, 0) else (0, L)) ∧
   emin (if y then (1, false, 0, 0) else (0, B)) (if y' then (1, false, 0, 0) else (0, B')) = (if v then (1, false, 0, 0) else (0, U)) := by
 have lo : ∃ L u, (u = false → QFit L) ∧ (if jtl (if x then (false, 0, 0) else A, if y then (false, 0, 0) else B, x, y, false) (if x' then (false, 0, 0) else A', if y' then (false, 0, 0) else B', x', y', false) then (if x' then (false, 0, 0) else A') else (if x then (false, 0, 0) else A)) = (if u then (false, 0, 0) else L) ∧ (if jtl (if x then (false, 0, 0) else A, if y then (false, 0, 0) else B, x, y, false) (if x' then (false, 0, 0) else A', if y' then (false, 0, 0) else B', x', y', false) then x' else x) = u ∧ emax (if x then (-1, false, 0, 0) else (0, A)) (if x' then (-1, false, 0, 0) else (0, A')) = (if u then (-1, false, 0, 0) else (0, L)) := by
  cases x <;> cases x'
  ·refine ⟨qmax A A', false, fun _ => (hA rfl).qmax (hA' rfl), ?_, ?_, emax_fin2 A A'⟩
   ·show (if decide (0 < fcmp A' A) then A' else A) = qmax A A'
    unfold Go.Proofs.YtimjoejkjgklaaaGreatDoor.qmax
    by_cases hp : 0 < fcmp A' A
    ·rw [decide_eq_true hp, if_pos hp]; rfl
    ·rw [decide_eq_false hp, if_neg hp]; rfl
   ·show (if decide (0 < fcmp A' A) then false else false) = false
    split <;> rfl
  ·exact ⟨A, false, fun _ => hA rfl, rfl, rfl, rfl⟩
  ·exact ⟨A', false, fun _ => hA' rfl, rfl, rfl, rfl⟩
  ·exact ⟨A, true, fun h => Bool.noConfusion h, rfl, rfl, rfl⟩
 have hi : ∃ U v, (v = false → QFit U) ∧ (if jth (if x then (false, 0, 0) else A, if y then (false, 0, 0) else B, x, y, false) (if x' then (false, 0, 0) else A', if y' then (false, 0, 0) else B', x', y', false) then (if y' then (false, 0, 0) else B') else (if y then (false, 0, 0) else B)) = (if v then (false, 0, 0) else U) ∧ (if jth (if x then (false, 0, 0) else A, if y then (false, 0, 0) else B, x, y, false) (if x' then (false, 0, 0) else A', if y' then (false, 0, 0) else B', x', y', false) then y' else y) = v ∧ emin (if y then (1, false, 0, 0) else (0, B)) (if y' then (1, false, 0, 0) else (0, B')) = (if v then (1, false, 0, 0) else (0, U)) := by
  cases y <;> cases y'
  ·refine ⟨qmin B B', false, fun _ => (hB rfl).qmin (hB' rfl), ?_, ?_, emin_fin2 B B'⟩
   ·show (if decide (fcmp B' B < 0) then B' else B) = qmin B B'
    unfold Go.Proofs.YtimjoejkjgklaaaGreatDoor.qmin
    by_cases hp : fcmp B' B < 0
    ·rw [decide_eq_true hp, if_pos hp]; rfl
    ·rw [decide_eq_false hp, if_neg hp]; rfl
   ·show (if decide (fcmp B' B < 0) then false else false) = false
    split <;> rfl
  ·exact ⟨B, false, fun _ => hB rfl, rfl, rfl, rfl⟩
  ·exact ⟨B', false, fun _ => hB' rfl, rfl, rfl, rfl⟩
  ·exact ⟨B, true, fun h => Bool.noConfusion h, rfl, rfl, rfl⟩
 obtain ⟨L, u, hL, e1, e2, e3⟩ := lo
 obtain ⟨U, v, hU, f1, f2, f3⟩ := hi
 refine ⟨L, U, u, v, hL, hU, ?_, e3, f3⟩
 rw [← e1, ← f1]
 unfold jpart
 rw [show ((if jtl (if x then (false, 0, 0) else A, if y then (false, 0, 0) else B, x, y, false) (if x' then (false, 0, 0) else A', if y' then (false, 0, 0) else B', x', y', false) then ((if x' then (false, 0, 0) else A', if y' then (false, 0, 0) else B', x', y', false) : (Bool × Nat × Nat) × (Bool × Nat × Nat) × Bool × Bool × Bool).2.2.1 else ((if x then (false, 0, 0) else A, if y then (false, 0, 0) else B, x, y, false) : (Bool × Nat × Nat) × (Bool × Nat × Nat) × Bool × Bool × Bool).2.2.1) = u) from e2,
  show ((if jth (if x then (false, 0, 0) else A, if y then (false, 0, 0) else B, x, y, false) (if x' then (false, 0, 0) else A', if y' then (false, 0, 0) else B', x', y', false) then ((if x' then (false, 0, 0) else A', if y' then (false, 0, 0) else B', x', y', false) : (Bool × Nat × Nat) × (Bool × Nat × Nat) × Bool × Bool × Bool).2.2.2.1 else ((if x then (false, 0, 0) else A, if y then (false, 0, 0) else B, x, y, false) : (Bool × Nat × Nat) × (Bool × Nat × Nat) × Bool × Bool × Bool).2.2.2.1) = v) from f2]
theorem jboth_good {J K : (Bool × Nat × Nat) × (Bool × Nat × Nat) × Bool × Bool × Bool} (h : JGood J) (h' : JGood K) : JGood (jboth J K) := by
 rcases h.shape with rfl | ⟨A, B, x, y, hA, hB, ho, rfl⟩
 ·exact .inl rfl
 ·rcases h'.shape with rfl | ⟨A', B', x', y', hA', hB', ho', rfl⟩
  ·exact .inl rfl
  ·clear h h' ho ho'
   obtain ⟨L, U, u, v, hL, hU, e, _, _⟩ := jpart_shape hA hB hA' hB'
   rw [jboth_eq rfl rfl, e, jbad_eq]
   clear e hA hB hA' hB'
   cases hb : (!u && !v && decide (0 < fcmp L U))
   ·refine .inr ⟨rfl, ?_, ?_, ?_⟩
    ·cases u
     ·exact .inr ⟨rfl, hL rfl⟩
     ·exact .inl ⟨rfl, rfl⟩
    ·cases v
     ·exact .inr ⟨rfl, hU rfl⟩
     ·exact .inl ⟨rfl, rfl⟩
    ·intro g1 g2
     have g1' : u = false := g1
     have g2' : v = false := g2
     subst g1' g2'
     have hn' : decide (0 < fcmp L U) = false := hb
     rw [decide_eq_false_iff_not] at hn'
     show fcmp L U ≤ 0
     omega
   ·exact .inl rfl
theorem SimQ.meet {S T : (Int × Bool × Nat × Nat) × (Int × Bool × Nat × Nat) × Bool} {J K : (Bool × Nat × Nat) × (Bool × Nat × Nat) × Bool × Bool × Bool} (h : SimQ S J) (h' : SimQ T K) : giv (smeet S T) = japi (jboth J K) := by
 obtain ⟨A, B, x, y, hA, hB, rfl, rfl⟩ := h
 obtain ⟨A', B', x', y', hA', hB', rfl, rfl⟩ := h'
 obtain ⟨L, U, u, v, hL, hU, e, e2, e3⟩ := jpart_shape hA hB hA' hB'
 rw [jboth_eq rfl rfl, e, jbad_eq]
 unfold smeet sfrom
 rw [show emax ((if x then ((-1, false, 0, 0) : Int × Bool × Nat × Nat) else (0, A), if y then ((1, false, 0, 0) : Int × Bool × Nat × Nat) else (0, B), false) : (Int × Bool × Nat × Nat) × (Int × Bool × Nat × Nat) × Bool).1 ((if x' then ((-1, false, 0, 0) : Int × Bool × Nat × Nat) else (0, A'), if y' then ((1, false, 0, 0) : Int × Bool × Nat × Nat) else (0, B'), false) : (Int × Bool × Nat × Nat) × (Int × Bool × Nat × Nat) × Bool).1 = (if u then (-1, false, 0, 0) else (0, L)) from e2,
  show emin ((if x then ((-1, false, 0, 0) : Int × Bool × Nat × Nat) else (0, A), if y then ((1, false, 0, 0) : Int × Bool × Nat × Nat) else (0, B), false) : (Int × Bool × Nat × Nat) × (Int × Bool × Nat × Nat) × Bool).2.1 ((if x' then ((-1, false, 0, 0) : Int × Bool × Nat × Nat) else (0, A'), if y' then ((1, false, 0, 0) : Int × Bool × Nat × Nat) else (0, B'), false) : (Int × Bool × Nat × Nat) × (Int × Bool × Nat × Nat) × Bool).2.1 = (if v then (1, false, 0, 0) else (0, U)) from e3]
 clear e e2 e3 hA hB hA' hB'
 have key : decide (0 < ecmp (if u then ((-1, false, 0, 0) : Int × Bool × Nat × Nat) else (0, L)) (if v then ((1, false, 0, 0) : Int × Bool × Nat × Nat) else (0, U))) = (!u && !v && decide (0 < fcmp L U)) := by
  cases u <;> cases v
  ·show decide (0 < ecmp (0, L) (0, U)) = decide (0 < fcmp L U)
   rw [ecmp_fin2]
  ·rfl
  ·rfl
  ·rfl
 rw [key]
 cases hb : (!u && !v && decide (0 < fcmp L U))
 ·have hs : SimQ (if u then ((-1, false, 0, 0) : Int × Bool × Nat × Nat) else (0, L), if v then ((1, false, 0, 0) : Int × Bool × Nat × Nat) else (0, U), false) (if u then (false, 0, 0) else L, if v then (false, 0, 0) else U, u, v, false) := ⟨L, U, u, v, hL, hU, rfl, rfl⟩
  exact hs.api.1
 ·rfl
theorem SimQ.hull {S T : (Int × Bool × Nat × Nat) × (Int × Bool × Nat × Nat) × Bool} {J K : (Bool × Nat × Nat) × (Bool × Nat × Nat) × Bool × Bool × Bool} (h : SimQ S J) (h' : SimQ T K) : giv (shull S T) = japi (jhull J K) := by
 obtain ⟨A, B, x, y, hA, hB, rfl, rfl⟩ := h
 obtain ⟨A', B', x', y', hA', hB', rfl, rfl⟩ := h'
 refine SimQ.api (S := shull _ _) (J := jhull _ _) ?_ |>.1
 refine ⟨qmin A A', qmax B B', x || x', y || y', ?_, ?_, ?_, ?_⟩
 ·intro hx
  rw [Bool.or_eq_false_iff] at hx
  exact (hA hx.1).qmin (hA' hx.2)
 ·intro hx
  rw [Bool.or_eq_false_iff] at hx
  exact (hB hx.1).qmax (hB' hx.2)
 ·unfold shull
  cases x <;> cases x' <;> cases y <;> cases y'
  all_goals
   simp only [if_true, if_false, Bool.false_eq_true, emax_fin2, emin_fin2, Bool.or_false, Bool.or_true]
   try rfl
 ·cases x <;> cases x' <;> cases y <;> cases y' <;> rfl
theorem SimQ.inside {S T : (Int × Bool × Nat × Nat) × (Int × Bool × Nat × Nat) × Bool} {J K : (Bool × Nat × Nat) × (Bool × Nat × Nat) × Bool × Bool × Bool} (h : SimQ S J) (h' : SimQ T K) : sinside S T = jwithin J K := by
 obtain ⟨A, B, x, y, hA, hB, rfl, rfl⟩ := h
 obtain ⟨A', B', x', y', hA', hB', rfl, rfl⟩ := h'
 unfold sinside jwithin
 cases x <;> cases x' <;> cases y <;> cases y'
 all_goals
  simp only [if_true, if_false, Bool.false_eq_true, ecmp_fin2, Bool.or_false, Bool.false_or, Bool.not_false, Bool.true_and, Bool.not_true, Bool.false_and, Bool.true_or]
  try rfl
theorem m2_meet (a b a' b' : Bool × Nat × Nat) (x y x' y' : Bool) : m2val smeet (a, b, x, y) (a', b', x', y') = jval2 jboth (a, b, x, y) (a', b', x', y') := by
 unfold m2val jval2
 cases h : (ilarge (a, b, x, y) || ilarge (a', b', x', y'))
 ·rw [Bool.or_eq_false_iff] at h
  have hl1 : (large a.2.1 a.2.2 || large b.2.1 b.2.2) = false := h.1
  have hl2 : (large a'.2.1 a'.2.2 || large b'.2.1 b'.2.2) = false := h.2
  rw [Bool.or_eq_false_iff] at hl1 hl2
  cases he : (srd (a, b, x, y)).2.2
  ·cases he' : (srd (a', b', x', y')).2.2
   ·exact (SimQ.of hl1.1 hl1.2 he).meet (SimQ.of hl2.1 hl2.2 he')
   ·rw [jof_out he', show jboth (jof (a, b, x, y)) jnone = jnone by unfold jboth; rw [jnone_or]; rfl]
    show giv (srd (a', b', x', y')) = _
    rw [giv_srd hl2.1 hl2.2, jof_out he']
    rfl
  ·rw [jof_out he]
   show giv (srd (a, b, x, y)) = _
   rw [giv_srd hl1.1 hl1.2, jof_out he]
   rfl
 ·rfl
theorem h2_hull (a b a' b' : Bool × Nat × Nat) (x y x' y' : Bool) : h2val (a, b, x, y) (a', b', x', y') = jval2 jhull (a, b, x, y) (a', b', x', y') := by
 unfold h2val jval2
 cases h : (ilarge (a, b, x, y) || ilarge (a', b', x', y'))
 ·rw [Bool.or_eq_false_iff] at h
  have hl1 : (large a.2.1 a.2.2 || large b.2.1 b.2.2) = false := h.1
  have hl2 : (large a'.2.1 a'.2.2 || large b'.2.1 b'.2.2) = false := h.2
  rw [Bool.or_eq_false_iff] at hl1 hl2
  cases he : (srd (a, b, x, y)).2.2
  ·cases he' : (srd (a', b', x', y')).2.2
   ·exact (SimQ.of hl1.1 hl1.2 he).hull (SimQ.of hl2.1 hl2.2 he')
   ·have e1 : shull (srd (a, b, x, y)) (srd (a', b', x', y')) = srd (a, b, x, y) := by unfold shull; rw [he, he']; rfl
    have e2 : jhull (jof (a, b, x, y)) (jof (a', b', x', y')) = jof (a, b, x, y) := by rw [jof_out he', jof_in he]; rfl
    rw [e1, e2]
    exact giv_srd hl1.1 hl1.2
  ·have e1 : shull (srd (a, b, x, y)) (srd (a', b', x', y')) = srd (a', b', x', y') := by unfold shull; rw [he]; rfl
   have e2 : jhull (jof (a, b, x, y)) (jof (a', b', x', y')) = jof (a', b', x', y') := by rw [jof_out he]; rfl
   rw [e1, e2]
   exact giv_srd hl2.1 hl2.2
 ·rfl
theorem inside_empty {a b a' b' : Bool × Nat × Nat} {x y x' y' : Bool} (h1 : large a.2.1 a.2.2 = false) (h2 : large b.2.1 b.2.2 = false) (h3 : large a'.2.1 a'.2.2 = false) (h4 : large b'.2.1 b'.2.2 = false) (he : (srd (a, b, x, y)).2.2 = false) (he' : (srd (a', b', x', y')).2.2 = true) : sinside (srd (a, b, x, y)) (srd (a', b', x', y')) = false := by
 have qa := QFit.of h1
 have qb := QFit.of h2
 have qa' := QFit.of h3
 have qb' := QFit.of h4
 have e0 : decide (0 < ecmp (rdE x (-1) a) (rdE y 1 b)) = false := he
 have e1 : decide (0 < ecmp (rdE x' (-1) a') (rdE y' 1 b')) = true := he'
 rw [decide_eq_false_iff_not] at e0
 rw [decide_eq_true_eq] at e1
 have c1 : x' = false ∧ y' = false := by
  cases x' <;> cases y'
  ·exact ⟨rfl, rfl⟩
  ·have : ecmp (rdE false (-1) a') (rdE true 1 b') = -1 := rfl
   omega
  ·have : ecmp (rdE true (-1) a') (rdE false 1 b') = -1 := rfl
   omega
  ·have : ecmp (rdE true (-1) a') (rdE true 1 b') = -1 := rfl
   omega
 obtain ⟨rfl, rfl⟩ := c1
 have e2 : 0 < fcmp (fr a') (fr b') := by
  have : ecmp (rdE false (-1) a') (rdE false 1 b') = fcmp (fr a') (fr b') := ecmp_fin2 _ _
  omega
 unfold sinside
 rw [he, Bool.false_or]
 rw [Bool.and_eq_false_iff, decide_eq_false_iff_not, decide_eq_false_iff_not]
 show ¬ ecmp (rdE false (-1) a') (rdE x (-1) a) ≤ 0 ∨ ¬ ecmp (rdE y 1 b) (rdE false 1 b') ≤ 0
 cases x
 ·cases y
  ·have k1 : ecmp (rdE false (-1) a') (rdE false (-1) a) = fcmp (fr a') (fr a) := ecmp_fin2 _ _
   have k2 : ecmp (rdE false 1 b) (rdE false 1 b') = fcmp (fr b) (fr b') := ecmp_fin2 _ _
   have k3 : ecmp (rdE false (-1) a) (rdE false 1 b) = fcmp (fr a) (fr b) := ecmp_fin2 _ _
   rw [k1, k2]
   rw [k3] at e0
   apply Decidable.byContradiction
   intro hn
   rw [not_or, Decidable.not_not, Decidable.not_not] at hn
   have := fle3 qa' qa qb' hn.1 (fle3 qa qb qb' (by omega) hn.2)
   omega
  ·right
   have : ecmp (rdE true 1 b) (rdE false 1 b') = 1 := rfl
   omega
 ·left
  have : ecmp (rdE false (-1) a') (rdE true (-1) a) = 1 := rfl
  omega
theorem i2_inside (a b a' b' : Bool × Nat × Nat) (x y x' y' : Bool) : i2val (a, b, x, y) (a', b', x', y') = jin2 (a, b, x, y) (a', b', x', y') := by
 unfold i2val jin2
 cases h : (ilarge (a, b, x, y) || ilarge (a', b', x', y'))
 ·rw [Bool.or_eq_false_iff] at h
  have hl1 : (large a.2.1 a.2.2 || large b.2.1 b.2.2) = false := h.1
  have hl2 : (large a'.2.1 a'.2.2 || large b'.2.1 b'.2.2) = false := h.2
  rw [Bool.or_eq_false_iff] at hl1 hl2
  show sinside (srd (a, b, x, y)) (srd (a', b', x', y')) = jwithin (jof (a, b, x, y)) (jof (a', b', x', y'))
  cases he : (srd (a, b, x, y)).2.2
  ·cases he' : (srd (a', b', x', y')).2.2
   ·exact (SimQ.of hl1.1 hl1.2 he).inside (SimQ.of hl2.1 hl2.2 he')
   ·rw [inside_empty hl1.1 hl1.2 hl2.1 hl2.2 he he', jof_out he', jof_in he]
    rfl
  ·rw [jof_out he]
   unfold sinside
   rw [he]
   rfl
 ·rfl
end Go.Proofs.YtimjoejkjgklaaaGreatDoor
namespace Go.Proofs.YtimjoejkjgklaaaGreatDoor
open Go.RowKit Dg
theorem jMeet_ret {W : World} {B : Nat} {a0 a1 a2 a3 a4 a5 a6 a7 ev : Value} {tm : Array Value} {R : Ending → World → Prop} (h2 : tm[4]?.getD undef = .pointer (some ⟨B, 0, none⟩)) (h3 : tm[5]?.getD undef = ev) (hV : Box W B #[a0, a1, a2, a3, a4, a5, a6, a7]) (hR : R (.returned (.tuple #[.agg #[a0, a1, a2, a3, a4, a5, a6, a7], ev])) W) :
  bodyPost Tryz.prog Tryz.f28 R .ret { tmps := tm, defers := [] } W := by
 obtain ⟨g0, g1, g2, g3, g4, g5, g6, g7, _⟩ := hV.cells8
 exact bodyPost_ret (v := .tuple #[.agg #[a0, a1, a2, a3, a4, a5, a6, a7], ev]) (by simp [results, Tryz.results28, go_sem, h2, h3, g0, g1, g2, g3, g4, g5, g6, g7]) rfl hR
theorem jMeet_err (s1 : Bool) (p1 : Option Addr) (k1 c1 : Nat) (q1 : Option Addr) (l1 d1 : Nat) (sz1 : Bool) (pz1 : Option Addr) (kz1 cz1 : Nat) (qz1 : Option Addr) (lz1 dz1 : Nat) (x1 : Bool) (y1 : Bool) (s2 : Bool) (p2 : Option Addr) (k2 c2 : Nat) (q2 : Option Addr) (l2 d2 : Nat) (sz2 : Bool) (pz2 : Option Addr) (kz2 cz2 : Nat) (qz2 : Option Addr) (lz2 dz2 : Nat) (x2 : Bool) (y2 : Bool) (w : World)
  (ho : ∀ W, Below w.heap.size w W → Calls Tryz.prog 60 #[.agg #[.bool s1, .slice p1 k1 c1, .slice q1 l1 d1, .bool sz1, .slice pz1 kz1 cz1, .slice qz1 lz1 dz1, .bool x1, .bool y1], .agg #[.bool s2, .slice p2 k2 c2, .slice q2 l2 d2, .bool sz2, .slice pz2 kz2 cz2, .slice qz2 lz2 dz2, .bool x2, .bool y2], .int .i64 0] W fun e w' => e = .returned (.tuple #[.agg #[.bool false, .slice none 0 0, .slice none 0 0, .bool false, .slice none 0 0, .slice none 0 0, .bool false, .bool false, .bool false], .agg #[.bool false, .slice none 0 0, .slice none 0 0, .bool false, .slice none 0 0, .slice none 0 0, .bool false, .bool false, .bool false], .int .i64 1]) ∧ Below W.heap.size W w') :
  Calls Tryz.prog 28 #[.agg #[.bool s1, .slice p1 k1 c1, .slice q1 l1 d1, .bool sz1, .slice pz1 kz1 cz1, .slice qz1 lz1 dz1, .bool x1, .bool y1], .agg #[.bool s2, .slice p2 k2 c2, .slice q2 l2 d2, .bool sz2, .slice pz2 kz2 cz2, .slice qz2 lz2 dz2, .bool x2, .bool y2]] w fun e w' => ∃ s5 p5 k5 c5 q5 l5 d5 sz5 pz5 kz5 cz5 qz5 lz5 dz5 x5 y5, e = .returned (.tuple #[.agg #[.bool s5, .slice p5 k5 c5, .slice q5 l5 d5, .bool sz5, .slice pz5 kz5 cz5, .slice qz5 lz5 dz5, .bool x5, .bool y5], .int .i64 1]) ∧ Hid (GRep w' (.agg #[.bool s5, .slice p5 k5 c5, .slice q5 l5 d5, .bool sz5, .slice pz5 kz5 cz5, .slice qz5 lz5 dz5, .bool x5, .bool y5]) gzero) ∧ Below w.heap.size w w' := by
 have HL := hid ho
 clear ho
 go_enter Tryz.func28, Tryz.ntmps28
 go_wp2_with fail
 generalize hA : World.alloc _ _ = W0
 have HV := hid (pre3_o hA nd8 nd8 nd8)
 clear hA
 refine (HL.out _ HV.out.2.2.2).mono ?_
 rintro e w1 ⟨rfl, hB1⟩
 have HE := hid (And.intro (HV.out.2.2.1.below hB1) (HV.out.2.2.2.trans (hB1.mono HV.out.2.2.2.size)))
 clear hB1
 go_upto_region 3 with fail
 have hlt := HE.out.1.lt
 generalize hA : World.alloc _ _ = W1
 have HX : Hid (Below w1.heap.size w1 W1) := hid (by rw [← hA]; exact ((Below.refl _ _).alloc (Nat.le_refl _) _).alloc (by simp) _)
 clear hA
 have HE2 := hid (And.intro (HE.out.1.below HX.out) (HE.out.2.trans (HX.out.mono HE.out.2.size)))
 obtain ⟨g0, g1, g2, g3, g4, g5, g6, g7, f0, f1, f2, f3, f4, f5, f6, f7⟩ := HE2.out.1.cells8
 go_wp2_with fail
 exact jMeet_ret rfl rfl (HE2.out.1.stores [.bool false, .slice none 0 0, .slice none 0 0, .bool false, .slice none 0 0, .slice none 0 0, .bool false, .bool false] rfl nd8) ⟨_, _, _, _, _, _, _, _, _, _, _, _, _, _, _, _, rfl, hid (GRep.stores (k := 0) (l := [.bool false, .slice none 0 0, .slice none 0 0, .bool false, .slice none 0 0, .slice none 0 0, .bool false, .bool false]) (GRep.zero W1) HE2.out.1 nd8), Below.stores (k := 0) (l := [.bool false, .slice none 0 0, .slice none 0 0, .bool false, .slice none 0 0, .slice none 0 0, .bool false, .bool false]) HE2.out.2 (by omega)⟩
theorem jMeet_ok (s1 : Bool) (p1 : Option Addr) (k1 c1 : Nat) (q1 : Option Addr) (l1 d1 : Nat) (sz1 : Bool) (pz1 : Option Addr) (kz1 cz1 : Nat) (qz1 : Option Addr) (lz1 dz1 : Nat) (x1 : Bool) (y1 : Bool) (s2 : Bool) (p2 : Option Addr) (k2 c2 : Nat) (q2 : Option Addr) (l2 d2 : Nat) (sz2 : Bool) (pz2 : Option Addr) (kz2 cz2 : Nat) (qz2 : Option Addr) (lz2 dz2 : Nat) (x2 : Bool) (y2 : Bool) (J K : (Bool × Nat × Nat) × (Bool × Nat × Nat) × Bool × Bool × Bool) (w : World) (hJ : JGood J) (hK : JGood K)
  (ho : ∀ W, Below w.heap.size w W → Calls Tryz.prog 60 #[.agg #[.bool s1, .slice p1 k1 c1, .slice q1 l1 d1, .bool sz1, .slice pz1 kz1 cz1, .slice qz1 lz1 dz1, .bool x1, .bool y1], .agg #[.bool s2, .slice p2 k2 c2, .slice q2 l2 d2, .bool sz2, .slice pz2 kz2 cz2, .slice qz2 lz2 dz2, .bool x2, .bool y2], .int .i64 0] W fun e w' => ∃ s3 p3 k3 c3 q3 l3 d3 sz3 pz3 kz3 cz3 qz3 lz3 dz3 x3 y3 e3 s4 p4 k4 c4 q4 l4 d4 sz4 pz4 kz4 cz4 qz4 lz4 dz4 x4 y4 e4, e = .returned (.tuple #[.agg #[.bool s3, .slice p3 k3 c3, .slice q3 l3 d3, .bool sz3, .slice pz3 kz3 cz3, .slice qz3 lz3 dz3, .bool x3, .bool y3, .bool e3], .agg #[.bool s4, .slice p4 k4 c4, .slice q4 l4 d4, .bool sz4, .slice pz4 kz4 cz4, .slice qz4 lz4 dz4, .bool x4, .bool y4, .bool e4], .int .i64 0]) ∧ Hid (JRep w' (.agg #[.bool s3, .slice p3 k3 c3, .slice q3 l3 d3, .bool sz3, .slice pz3 kz3 cz3, .slice qz3 lz3 dz3, .bool x3, .bool y3, .bool e3]) J) ∧ Hid (JRep w' (.agg #[.bool s4, .slice p4 k4 c4, .slice q4 l4 d4, .bool sz4, .slice pz4 kz4 cz4, .slice qz4 lz4 dz4, .bool x4, .bool y4, .bool e4]) K) ∧ Below W.heap.size W w') :
  Calls Tryz.prog 28 #[.agg #[.bool s1, .slice p1 k1 c1, .slice q1 l1 d1, .bool sz1, .slice pz1 kz1 cz1, .slice qz1 lz1 dz1, .bool x1, .bool y1], .agg #[.bool s2, .slice p2 k2 c2, .slice q2 l2 d2, .bool sz2, .slice pz2 kz2 cz2, .slice qz2 lz2 dz2, .bool x2, .bool y2]] w fun e w' => ∃ s5 p5 k5 c5 q5 l5 d5 sz5 pz5 kz5 cz5 qz5 lz5 dz5 x5 y5, e = .returned (.tuple #[.agg #[.bool s5, .slice p5 k5 c5, .slice q5 l5 d5, .bool sz5, .slice pz5 kz5 cz5, .slice qz5 lz5 dz5, .bool x5, .bool y5], .int .i64 0]) ∧ Hid (GRep w' (.agg #[.bool s5, .slice p5 k5 c5, .slice q5 l5 d5, .bool sz5, .slice pz5 kz5 cz5, .slice qz5 lz5 dz5, .bool x5, .bool y5]) (japi (jboth J K))) ∧ Below w.heap.size w w' := by
 have HL := hid ho
 have HP := hid (fun (W : World) (s3 : Bool) (p3 : Option Addr) (k3 c3 : Nat) (q3 : Option Addr) (l3 d3 : Nat) (sz3 : Bool) (pz3 : Option Addr) (kz3 cz3 : Nat) (qz3 : Option Addr) (lz3 dz3 : Nat) (x3 : Bool) (y3 : Bool) (e3 : Bool) (s4 : Bool) (p4 : Option Addr) (k4 c4 : Nat) (q4 : Option Addr) (l4 d4 : Nat) (sz4 : Bool) (pz4 : Option Addr) (kz4 cz4 : Nat) (qz4 : Option Addr) (lz4 dz4 : Nat) (x4 : Bool) (y4 : Bool) (e4 : Bool) (h : JRep W (.agg #[.bool s3, .slice p3 k3 c3, .slice q3 l3 d3, .bool sz3, .slice pz3 kz3 cz3, .slice qz3 lz3 dz3, .bool x3, .bool y3, .bool e3]) J) (h' : JRep W (.agg #[.bool s4, .slice p4 k4 c4, .slice q4 l4 d4, .bool sz4, .slice pz4 kz4 cz4, .slice qz4 lz4 dz4, .bool x4, .bool y4, .bool e4]) K) => jBoth_any s3 p3 k3 c3 q3 l3 d3 sz3 pz3 kz3 cz3 qz3 lz3 dz3 x3 y3 e3 s4 p4 k4 c4 q4 l4 d4 sz4 pz4 kz4 cz4 qz4 lz4 dz4 x4 y4 e4 _ _ W h h' hJ hK)
 have HA := hid (fun (W : World) (s3 : Bool) (p3 : Option Addr) (k3 c3 : Nat) (q3 : Option Addr) (l3 d3 : Nat) (sz3 : Bool) (pz3 : Option Addr) (kz3 cz3 : Nat) (qz3 : Option Addr) (lz3 dz3 : Nat) (x3 : Bool) (y3 : Bool) (e3 : Bool) (h : JRep W (.agg #[.bool s3, .slice p3 k3 c3, .slice q3 l3 d3, .bool sz3, .slice pz3 kz3 cz3, .slice qz3 lz3 dz3, .bool x3, .bool y3, .bool e3]) (jboth J K)) => jApi_any s3 p3 k3 c3 q3 l3 d3 sz3 pz3 kz3 cz3 qz3 lz3 dz3 x3 y3 e3 _ W h (jboth_good hJ hK).bd)
 clear ho hJ hK
 obtain ⟨r, hr⟩ : ∃ r, r = jboth J K := ⟨_, rfl⟩
 rw [← hr] at HP HA ⊢
 clear hr
 obtain ⟨D, hD⟩ : ∃ D, D = japi r := ⟨_, rfl⟩
 rw [← hD] at HA ⊢
 clear hD
 go_enter Tryz.func28, Tryz.ntmps28
 go_wp2_with fail
 generalize hA : World.alloc _ _ = W0
 have HV := hid (pre3_o hA nd8 nd8 nd8)
 clear hA
 refine (HL.out _ HV.out.2.2.2).mono ?_
 rintro e w1 ⟨s3, p3, k3, c3, q3, l3, d3, sz3, pz3, kz3, cz3, qz3, lz3, dz3, x3, y3, e3, s4, p4, k4, c4, q4, l4, d4, sz4, pz4, kz4, cz4, qz4, lz4, dz4, x4, y4, e4, rfl, hJ, hK, hB1⟩
 have HE := hid (And.intro (HV.out.2.2.1.below hB1) (HV.out.2.2.2.trans (hB1.mono HV.out.2.2.2.size)))
 clear hB1
 go_upto_region 4 with fail
 have hlt := HE.out.1.lt
 generalize hA : World.alloc _ _ = W1
 have HX := hid (pre2_ofW hA nd_J nd_J)
 clear hA
 have HJ := hid (hJ.out.below HX.out.2.2)
 have HK := hid (hK.out.below HX.out.2.2)
 clear hJ hK
 have HE2 := hid (And.intro (HE.out.1.below HX.out.2.2) (HE.out.2.trans (HX.out.2.2.mono HE.out.2.size)))
 obtain ⟨m0, m1, m2, m3, m4, m5, m6, m7, m8, _⟩ := HX.out.1.cells9
 obtain ⟨n0, n1, n2, n3, n4, n5, n6, n7, n8, _⟩ := HX.out.2.1.cells9
 go_wp2_with fail
 refine (HP.out _ s3 p3 k3 c3 q3 l3 d3 sz3 pz3 kz3 cz3 qz3 lz3 dz3 x3 y3 e3 s4 p4 k4 c4 q4 l4 d4 sz4 pz4 kz4 cz4 qz4 lz4 dz4 x4 y4 e4 HJ.out HK.out).mono ?_
 rintro e w2 ⟨s7, p7, k7, c7, q7, l7, d7, sz7, pz7, kz7, cz7, qz7, lz7, dz7, x7, y7, e7, rfl, hM, hB2⟩
 have HE3 := hid (And.intro (HE2.out.1.below hB2) (HE2.out.2.trans (hB2.mono HE2.out.2.size)))
 clear hB2 m0 m1 m2 m3 m4 m5 m6 m7 m8 n0 n1 n2 n3 n4 n5 n6 n7 n8
 go_wp2_with fail
 refine (HA.out _ s7 p7 k7 c7 q7 l7 d7 sz7 pz7 kz7 cz7 qz7 lz7 dz7 x7 y7 e7 hM.out).mono ?_
 rintro e w4 ⟨s5, p5, k5, c5, q5, l5, d5, sz5, pz5, kz5, cz5, qz5, lz5, dz5, x5, y5, rfl, hG, hB4⟩
 have HE5 := hid (And.intro (HE3.out.1.below hB4) (HE3.out.2.trans (hB4.mono HE3.out.2.size)))
 clear hB4
 obtain ⟨g0, g1, g2, g3, g4, g5, g6, g7, f0, f1, f2, f3, f4, f5, f6, f7⟩ := HE5.out.1.cells8
 go_wp2_with fail
 exact jMeet_ret rfl rfl (HE5.out.1.stores [.bool s5, .slice p5 k5 c5, .slice q5 l5 d5, .bool sz5, .slice pz5 kz5 cz5, .slice qz5 lz5 dz5, .bool x5, .bool y5] rfl nd8) ⟨s5, p5, k5, c5, q5, l5, d5, sz5, pz5, kz5, cz5, qz5, lz5, dz5, x5, y5, rfl, hid (GRep.stores (k := 0) (l := [.bool s5, .slice p5 k5 c5, .slice q5 l5 d5, .bool sz5, .slice pz5 kz5 cz5, .slice qz5 lz5 dz5, .bool x5, .bool y5]) hG.out HE5.out.1 nd8), Below.stores (k := 0) (l := [.bool s5, .slice p5 k5 c5, .slice q5 l5 d5, .bool sz5, .slice pz5 kz5 cz5, .slice qz5 lz5 dz5, .bool x5, .bool y5]) HE5.out.2 (by omega)⟩
theorem jMeet_any (s1 : Bool) (p1 : Option Addr) (k1 c1 : Nat) (q1 : Option Addr) (l1 d1 : Nat) (sz1 : Bool) (pz1 : Option Addr) (kz1 cz1 : Nat) (qz1 : Option Addr) (lz1 dz1 : Nat) (x1 : Bool) (y1 : Bool) (s2 : Bool) (p2 : Option Addr) (k2 c2 : Nat) (q2 : Option Addr) (l2 d2 : Nat) (sz2 : Bool) (pz2 : Option Addr) (kz2 cz2 : Nat) (qz2 : Option Addr) (lz2 dz2 : Nat) (x2 : Bool) (y2 : Bool) (a b a' b' : Bool × Nat × Nat) (w : World) (ha : NRep w (.agg #[.bool s1, .slice p1 k1 c1, .slice q1 l1 d1]) a) (hb : NRep w (.agg #[.bool sz1, .slice pz1 kz1 cz1, .slice qz1 lz1 dz1]) b) (ha' : NRep w (.agg #[.bool s2, .slice p2 k2 c2, .slice q2 l2 d2]) a') (hb' : NRep w (.agg #[.bool sz2, .slice pz2 kz2 cz2, .slice qz2 lz2 dz2]) b') :
  Calls Tryz.prog 28 #[.agg #[.bool s1, .slice p1 k1 c1, .slice q1 l1 d1, .bool sz1, .slice pz1 kz1 cz1, .slice qz1 lz1 dz1, .bool x1, .bool y1], .agg #[.bool s2, .slice p2 k2 c2, .slice q2 l2 d2, .bool sz2, .slice pz2 kz2 cz2, .slice qz2 lz2 dz2, .bool x2, .bool y2]] w fun e w' => ∃ s5 p5 k5 c5 q5 l5 d5 sz5 pz5 kz5 cz5 qz5 lz5 dz5 x5 y5, e = .returned (.tuple #[.agg #[.bool s5, .slice p5 k5 c5, .slice q5 l5 d5, .bool sz5, .slice pz5 kz5 cz5, .slice qz5 lz5 dz5, .bool x5, .bool y5], .int .i64 (jcode2 (a, b, x1, y1) (a', b', x2, y2))]) ∧ Hid (GRep w' (.agg #[.bool s5, .slice p5 k5 c5, .slice q5 l5 d5, .bool sz5, .slice pz5 kz5 cz5, .slice qz5 lz5 dz5, .bool x5, .bool y5]) (jval2 jboth (a, b, x1, y1) (a', b', x2, y2))) ∧ Below w.heap.size w w' := by
 cases hL : (ilarge (a, b, x1, y1) || ilarge (a', b', x2, y2))
 ·have hc : jcode2 (a, b, x1, y1) (a', b', x2, y2) = 0 := by unfold jcode2; rw [hL]; rfl
  have hv : jval2 jboth (a, b, x1, y1) (a', b', x2, y2) = japi (jboth (jof (a, b, x1, y1)) (jof (a', b', x2, y2))) := by unfold jval2; rw [hL]; rfl
  rw [hc, hv]
  rw [Bool.or_eq_false_iff] at hL
  have hl1 : (large a.2.1 a.2.2 || large b.2.1 b.2.2) = false := hL.1
  have hl2 : (large a'.2.1 a'.2.2 || large b'.2.1 b'.2.2) = false := hL.2
  rw [Bool.or_eq_false_iff] at hl1 hl2
  exact jMeet_ok s1 p1 k1 c1 q1 l1 d1 sz1 pz1 kz1 cz1 qz1 lz1 dz1 x1 y1 s2 p2 k2 c2 q2 l2 d2 sz2 pz2 kz2 cz2 qz2 lz2 dz2 x2 y2 (jof (a, b, x1, y1)) (jof (a', b', x2, y2)) w (JGood.of hl1.1 hl1.2) (JGood.of hl2.1 hl2.2) fun W hW =>
   jTwo_ok s1 p1 k1 c1 q1 l1 d1 sz1 pz1 kz1 cz1 qz1 lz1 dz1 x1 y1 s2 p2 k2 c2 q2 l2 d2 sz2 pz2 kz2 cz2 qz2 lz2 dz2 x2 y2 a b a' b' 0 W (ha.below hW) (hb.below hW) (ha'.below hW) (hb'.below hW) hl1.1 hl1.2 hl2.1 hl2.2 (by omega) (by omega)
 ·have hc : jcode2 (a, b, x1, y1) (a', b', x2, y2) = 1 := by unfold jcode2; rw [hL]; rfl
  have hv : jval2 jboth (a, b, x1, y1) (a', b', x2, y2) = gzero := by unfold jval2; rw [hL]; rfl
  rw [hc, hv]
  exact jMeet_err s1 p1 k1 c1 q1 l1 d1 sz1 pz1 kz1 cz1 qz1 lz1 dz1 x1 y1 s2 p2 k2 c2 q2 l2 d2 sz2 pz2 kz2 cz2 qz2 lz2 dz2 x2 y2 w fun W hW => by
   cases hl : ilarge (a, b, x1, y1)
   ·rw [hl, Bool.false_or] at hL
    exact jTwo_l2 s1 p1 k1 c1 q1 l1 d1 sz1 pz1 kz1 cz1 qz1 lz1 dz1 x1 y1 s2 p2 k2 c2 q2 l2 d2 sz2 pz2 kz2 cz2 qz2 lz2 dz2 x2 y2 a b a' b' 0 W (ha.below hW) (hb.below hW) (ha'.below hW) (hb'.below hW) hl hL
   ·exact jTwo_l1 s1 p1 k1 c1 q1 l1 d1 sz1 pz1 kz1 cz1 qz1 lz1 dz1 x1 y1 s2 p2 k2 c2 q2 l2 d2 sz2 pz2 kz2 cz2 qz2 lz2 dz2 x2 y2 a b 0 W (ha.below hW) (hb.below hW) hl
theorem jHull_ret {W : World} {B : Nat} {a0 a1 a2 a3 a4 a5 a6 a7 ev : Value} {tm : Array Value} {R : Ending → World → Prop} (h2 : tm[4]?.getD undef = .pointer (some ⟨B, 0, none⟩)) (h3 : tm[5]?.getD undef = ev) (hV : Box W B #[a0, a1, a2, a3, a4, a5, a6, a7]) (hR : R (.returned (.tuple #[.agg #[a0, a1, a2, a3, a4, a5, a6, a7], ev])) W) :
  bodyPost Tryz.prog Tryz.f30 R .ret { tmps := tm, defers := [] } W := by
 obtain ⟨g0, g1, g2, g3, g4, g5, g6, g7, _⟩ := hV.cells8
 exact bodyPost_ret (v := .tuple #[.agg #[a0, a1, a2, a3, a4, a5, a6, a7], ev]) (by simp [results, Tryz.results30, go_sem, h2, h3, g0, g1, g2, g3, g4, g5, g6, g7]) rfl hR
theorem jHull_err (s1 : Bool) (p1 : Option Addr) (k1 c1 : Nat) (q1 : Option Addr) (l1 d1 : Nat) (sz1 : Bool) (pz1 : Option Addr) (kz1 cz1 : Nat) (qz1 : Option Addr) (lz1 dz1 : Nat) (x1 : Bool) (y1 : Bool) (s2 : Bool) (p2 : Option Addr) (k2 c2 : Nat) (q2 : Option Addr) (l2 d2 : Nat) (sz2 : Bool) (pz2 : Option Addr) (kz2 cz2 : Nat) (qz2 : Option Addr) (lz2 dz2 : Nat) (x2 : Bool) (y2 : Bool) (w : World)
  (ho : ∀ W, Below w.heap.size w W → Calls Tryz.prog 60 #[.agg #[.bool s1, .slice p1 k1 c1, .slice q1 l1 d1, .bool sz1, .slice pz1 kz1 cz1, .slice qz1 lz1 dz1, .bool x1, .bool y1], .agg #[.bool s2, .slice p2 k2 c2, .slice q2 l2 d2, .bool sz2, .slice pz2 kz2 cz2, .slice qz2 lz2 dz2, .bool x2, .bool y2], .int .i64 0] W fun e w' => e = .returned (.tuple #[.agg #[.bool false, .slice none 0 0, .slice none 0 0, .bool false, .slice none 0 0, .slice none 0 0, .bool false, .bool false, .bool false], .agg #[.bool false, .slice none 0 0, .slice none 0 0, .bool false, .slice none 0 0, .slice none 0 0, .bool false, .bool false, .bool false], .int .i64 1]) ∧ Below W.heap.size W w') :
  Calls Tryz.prog 30 #[.agg #[.bool s1, .slice p1 k1 c1, .slice q1 l1 d1, .bool sz1, .slice pz1 kz1 cz1, .slice qz1 lz1 dz1, .bool x1, .bool y1], .agg #[.bool s2, .slice p2 k2 c2, .slice q2 l2 d2, .bool sz2, .slice pz2 kz2 cz2, .slice qz2 lz2 dz2, .bool x2, .bool y2]] w fun e w' => ∃ s5 p5 k5 c5 q5 l5 d5 sz5 pz5 kz5 cz5 qz5 lz5 dz5 x5 y5, e = .returned (.tuple #[.agg #[.bool s5, .slice p5 k5 c5, .slice q5 l5 d5, .bool sz5, .slice pz5 kz5 cz5, .slice qz5 lz5 dz5, .bool x5, .bool y5], .int .i64 1]) ∧ Hid (GRep w' (.agg #[.bool s5, .slice p5 k5 c5, .slice q5 l5 d5, .bool sz5, .slice pz5 kz5 cz5, .slice qz5 lz5 dz5, .bool x5, .bool y5]) gzero) ∧ Below w.heap.size w w' := by
 have HL := hid ho
 clear ho
 go_enter Tryz.func30, Tryz.ntmps30
 go_wp2_with fail
 generalize hA : World.alloc _ _ = W0
 have HV := hid (pre3_o hA nd8 nd8 nd8)
 clear hA
 refine (HL.out _ HV.out.2.2.2).mono ?_
 rintro e w1 ⟨rfl, hB1⟩
 have HE := hid (And.intro (HV.out.2.2.1.below hB1) (HV.out.2.2.2.trans (hB1.mono HV.out.2.2.2.size)))
 clear hB1
 go_upto_region 3 with fail
 have hlt := HE.out.1.lt
 generalize hA : World.alloc _ _ = W1
 have HX : Hid (Below w1.heap.size w1 W1) := hid (by rw [← hA]; exact ((Below.refl _ _).alloc (Nat.le_refl _) _).alloc (by simp) _)
 clear hA
 have HE2 := hid (And.intro (HE.out.1.below HX.out) (HE.out.2.trans (HX.out.mono HE.out.2.size)))
 obtain ⟨g0, g1, g2, g3, g4, g5, g6, g7, f0, f1, f2, f3, f4, f5, f6, f7⟩ := HE2.out.1.cells8
 go_wp2_with fail
 exact jHull_ret rfl rfl (HE2.out.1.stores [.bool false, .slice none 0 0, .slice none 0 0, .bool false, .slice none 0 0, .slice none 0 0, .bool false, .bool false] rfl nd8) ⟨_, _, _, _, _, _, _, _, _, _, _, _, _, _, _, _, rfl, hid (GRep.stores (k := 0) (l := [.bool false, .slice none 0 0, .slice none 0 0, .bool false, .slice none 0 0, .slice none 0 0, .bool false, .bool false]) (GRep.zero W1) HE2.out.1 nd8), Below.stores (k := 0) (l := [.bool false, .slice none 0 0, .slice none 0 0, .bool false, .slice none 0 0, .slice none 0 0, .bool false, .bool false]) HE2.out.2 (by omega)⟩
theorem jHull_ok (s1 : Bool) (p1 : Option Addr) (k1 c1 : Nat) (q1 : Option Addr) (l1 d1 : Nat) (sz1 : Bool) (pz1 : Option Addr) (kz1 cz1 : Nat) (qz1 : Option Addr) (lz1 dz1 : Nat) (x1 : Bool) (y1 : Bool) (s2 : Bool) (p2 : Option Addr) (k2 c2 : Nat) (q2 : Option Addr) (l2 d2 : Nat) (sz2 : Bool) (pz2 : Option Addr) (kz2 cz2 : Nat) (qz2 : Option Addr) (lz2 dz2 : Nat) (x2 : Bool) (y2 : Bool) (J K : (Bool × Nat × Nat) × (Bool × Nat × Nat) × Bool × Bool × Bool) (w : World) (hJ : JGood J) (hK : JGood K)
  (ho : ∀ W, Below w.heap.size w W → Calls Tryz.prog 60 #[.agg #[.bool s1, .slice p1 k1 c1, .slice q1 l1 d1, .bool sz1, .slice pz1 kz1 cz1, .slice qz1 lz1 dz1, .bool x1, .bool y1], .agg #[.bool s2, .slice p2 k2 c2, .slice q2 l2 d2, .bool sz2, .slice pz2 kz2 cz2, .slice qz2 lz2 dz2, .bool x2, .bool y2], .int .i64 0] W fun e w' => ∃ s3 p3 k3 c3 q3 l3 d3 sz3 pz3 kz3 cz3 qz3 lz3 dz3 x3 y3 e3 s4 p4 k4 c4 q4 l4 d4 sz4 pz4 kz4 cz4 qz4 lz4 dz4 x4 y4 e4, e = .returned (.tuple #[.agg #[.bool s3, .slice p3 k3 c3, .slice q3 l3 d3, .bool sz3, .slice pz3 kz3 cz3, .slice qz3 lz3 dz3, .bool x3, .bool y3, .bool e3], .agg #[.bool s4, .slice p4 k4 c4, .slice q4 l4 d4, .bool sz4, .slice pz4 kz4 cz4, .slice qz4 lz4 dz4, .bool x4, .bool y4, .bool e4], .int .i64 0]) ∧ Hid (JRep w' (.agg #[.bool s3, .slice p3 k3 c3, .slice q3 l3 d3, .bool sz3, .slice pz3 kz3 cz3, .slice qz3 lz3 dz3, .bool x3, .bool y3, .bool e3]) J) ∧ Hid (JRep w' (.agg #[.bool s4, .slice p4 k4 c4, .slice q4 l4 d4, .bool sz4, .slice pz4 kz4 cz4, .slice qz4 lz4 dz4, .bool x4, .bool y4, .bool e4]) K) ∧ Below W.heap.size W w') :
  Calls Tryz.prog 30 #[.agg #[.bool s1, .slice p1 k1 c1, .slice q1 l1 d1, .bool sz1, .slice pz1 kz1 cz1, .slice qz1 lz1 dz1, .bool x1, .bool y1], .agg #[.bool s2, .slice p2 k2 c2, .slice q2 l2 d2, .bool sz2, .slice pz2 kz2 cz2, .slice qz2 lz2 dz2, .bool x2, .bool y2]] w fun e w' => ∃ s5 p5 k5 c5 q5 l5 d5 sz5 pz5 kz5 cz5 qz5 lz5 dz5 x5 y5, e = .returned (.tuple #[.agg #[.bool s5, .slice p5 k5 c5, .slice q5 l5 d5, .bool sz5, .slice pz5 kz5 cz5, .slice qz5 lz5 dz5, .bool x5, .bool y5], .int .i64 0]) ∧ Hid (GRep w' (.agg #[.bool s5, .slice p5 k5 c5, .slice q5 l5 d5, .bool sz5, .slice pz5 kz5 cz5, .slice qz5 lz5 dz5, .bool x5, .bool y5]) (japi (jhull J K))) ∧ Below w.heap.size w w' := by
 have HL := hid ho
 have HP := hid (fun (W : World) (s3 : Bool) (p3 : Option Addr) (k3 c3 : Nat) (q3 : Option Addr) (l3 d3 : Nat) (sz3 : Bool) (pz3 : Option Addr) (kz3 cz3 : Nat) (qz3 : Option Addr) (lz3 dz3 : Nat) (x3 : Bool) (y3 : Bool) (e3 : Bool) (s4 : Bool) (p4 : Option Addr) (k4 c4 : Nat) (q4 : Option Addr) (l4 d4 : Nat) (sz4 : Bool) (pz4 : Option Addr) (kz4 cz4 : Nat) (qz4 : Option Addr) (lz4 dz4 : Nat) (x4 : Bool) (y4 : Bool) (e4 : Bool) (h : JRep W (.agg #[.bool s3, .slice p3 k3 c3, .slice q3 l3 d3, .bool sz3, .slice pz3 kz3 cz3, .slice qz3 lz3 dz3, .bool x3, .bool y3, .bool e3]) J) (h' : JRep W (.agg #[.bool s4, .slice p4 k4 c4, .slice q4 l4 d4, .bool sz4, .slice pz4 kz4 cz4, .slice qz4 lz4 dz4, .bool x4, .bool y4, .bool e4]) K) => jEither_any s3 p3 k3 c3 q3 l3 d3 sz3 pz3 kz3 cz3 qz3 lz3 dz3 x3 y3 e3 s4 p4 k4 c4 q4 l4 d4 sz4 pz4 kz4 cz4 qz4 lz4 dz4 x4 y4 e4 _ _ W h h' hJ hK)
 have HA := hid (fun (W : World) (s3 : Bool) (p3 : Option Addr) (k3 c3 : Nat) (q3 : Option Addr) (l3 d3 : Nat) (sz3 : Bool) (pz3 : Option Addr) (kz3 cz3 : Nat) (qz3 : Option Addr) (lz3 dz3 : Nat) (x3 : Bool) (y3 : Bool) (e3 : Bool) (h : JRep W (.agg #[.bool s3, .slice p3 k3 c3, .slice q3 l3 d3, .bool sz3, .slice pz3 kz3 cz3, .slice qz3 lz3 dz3, .bool x3, .bool y3, .bool e3]) (jhull J K)) => jApi_any s3 p3 k3 c3 q3 l3 d3 sz3 pz3 kz3 cz3 qz3 lz3 dz3 x3 y3 e3 _ W h (jhull_good hJ hK).bd)
 clear ho hJ hK
 obtain ⟨r, hr⟩ : ∃ r, r = jhull J K := ⟨_, rfl⟩
 rw [← hr] at HP HA ⊢
 clear hr
 obtain ⟨D, hD⟩ : ∃ D, D = japi r := ⟨_, rfl⟩
 rw [← hD] at HA ⊢
 clear hD
 go_enter Tryz.func30, Tryz.ntmps30
 go_wp2_with fail
 generalize hA : World.alloc _ _ = W0
 have HV := hid (pre3_o hA nd8 nd8 nd8)
 clear hA
 refine (HL.out _ HV.out.2.2.2).mono ?_
 rintro e w1 ⟨s3, p3, k3, c3, q3, l3, d3, sz3, pz3, kz3, cz3, qz3, lz3, dz3, x3, y3, e3, s4, p4, k4, c4, q4, l4, d4, sz4, pz4, kz4, cz4, qz4, lz4, dz4, x4, y4, e4, rfl, hJ, hK, hB1⟩
 have HE := hid (And.intro (HV.out.2.2.1.below hB1) (HV.out.2.2.2.trans (hB1.mono HV.out.2.2.2.size)))
 clear hB1
 go_upto_region 4 with fail
 have hlt := HE.out.1.lt
 generalize hA : World.alloc _ _ = W1
 have HX := hid (pre2_ofW hA nd_J nd_J)
 clear hA
 have HJ := hid (hJ.out.below HX.out.2.2)
 have HK := hid (hK.out.below HX.out.2.2)
 clear hJ hK
 have HE2 := hid (And.intro (HE.out.1.below HX.out.2.2) (HE.out.2.trans (HX.out.2.2.mono HE.out.2.size)))
 obtain ⟨m0, m1, m2, m3, m4, m5, m6, m7, m8, _⟩ := HX.out.1.cells9
 obtain ⟨n0, n1, n2, n3, n4, n5, n6, n7, n8, _⟩ := HX.out.2.1.cells9
 go_wp2_with fail
 refine (HP.out _ s3 p3 k3 c3 q3 l3 d3 sz3 pz3 kz3 cz3 qz3 lz3 dz3 x3 y3 e3 s4 p4 k4 c4 q4 l4 d4 sz4 pz4 kz4 cz4 qz4 lz4 dz4 x4 y4 e4 HJ.out HK.out).mono ?_
 rintro e w2 ⟨s7, p7, k7, c7, q7, l7, d7, sz7, pz7, kz7, cz7, qz7, lz7, dz7, x7, y7, e7, rfl, hM, hB2⟩
 have HE3 := hid (And.intro (HE2.out.1.below hB2) (HE2.out.2.trans (hB2.mono HE2.out.2.size)))
 clear hB2 m0 m1 m2 m3 m4 m5 m6 m7 m8 n0 n1 n2 n3 n4 n5 n6 n7 n8
 go_wp2_with fail
 refine (HA.out _ s7 p7 k7 c7 q7 l7 d7 sz7 pz7 kz7 cz7 qz7 lz7 dz7 x7 y7 e7 hM.out).mono ?_
 rintro e w4 ⟨s5, p5, k5, c5, q5, l5, d5, sz5, pz5, kz5, cz5, qz5, lz5, dz5, x5, y5, rfl, hG, hB4⟩
 have HE5 := hid (And.intro (HE3.out.1.below hB4) (HE3.out.2.trans (hB4.mono HE3.out.2.size)))
 clear hB4
 obtain ⟨g0, g1, g2, g3, g4, g5, g6, g7, f0, f1, f2, f3, f4, f5, f6, f7⟩ := HE5.out.1.cells8
 go_wp2_with fail
 exact jHull_ret rfl rfl (HE5.out.1.stores [.bool s5, .slice p5 k5 c5, .slice q5 l5 d5, .bool sz5, .slice pz5 kz5 cz5, .slice qz5 lz5 dz5, .bool x5, .bool y5] rfl nd8) ⟨s5, p5, k5, c5, q5, l5, d5, sz5, pz5, kz5, cz5, qz5, lz5, dz5, x5, y5, rfl, hid (GRep.stores (k := 0) (l := [.bool s5, .slice p5 k5 c5, .slice q5 l5 d5, .bool sz5, .slice pz5 kz5 cz5, .slice qz5 lz5 dz5, .bool x5, .bool y5]) hG.out HE5.out.1 nd8), Below.stores (k := 0) (l := [.bool s5, .slice p5 k5 c5, .slice q5 l5 d5, .bool sz5, .slice pz5 kz5 cz5, .slice qz5 lz5 dz5, .bool x5, .bool y5]) HE5.out.2 (by omega)⟩
theorem jHull_any (s1 : Bool) (p1 : Option Addr) (k1 c1 : Nat) (q1 : Option Addr) (l1 d1 : Nat) (sz1 : Bool) (pz1 : Option Addr) (kz1 cz1 : Nat) (qz1 : Option Addr) (lz1 dz1 : Nat) (x1 : Bool) (y1 : Bool) (s2 : Bool) (p2 : Option Addr) (k2 c2 : Nat) (q2 : Option Addr) (l2 d2 : Nat) (sz2 : Bool) (pz2 : Option Addr) (kz2 cz2 : Nat) (qz2 : Option Addr) (lz2 dz2 : Nat) (x2 : Bool) (y2 : Bool) (a b a' b' : Bool × Nat × Nat) (w : World) (ha : NRep w (.agg #[.bool s1, .slice p1 k1 c1, .slice q1 l1 d1]) a) (hb : NRep w (.agg #[.bool sz1, .slice pz1 kz1 cz1, .slice qz1 lz1 dz1]) b) (ha' : NRep w (.agg #[.bool s2, .slice p2 k2 c2, .slice q2 l2 d2]) a') (hb' : NRep w (.agg #[.bool sz2, .slice pz2 kz2 cz2, .slice qz2 lz2 dz2]) b') :
  Calls Tryz.prog 30 #[.agg #[.bool s1, .slice p1 k1 c1, .slice q1 l1 d1, .bool sz1, .slice pz1 kz1 cz1, .slice qz1 lz1 dz1, .bool x1, .bool y1], .agg #[.bool s2, .slice p2 k2 c2, .slice q2 l2 d2, .bool sz2, .slice pz2 kz2 cz2, .slice qz2 lz2 dz2, .bool x2, .bool y2]] w fun e w' => ∃ s5 p5 k5 c5 q5 l5 d5 sz5 pz5 kz5 cz5 qz5 lz5 dz5 x5 y5, e = .returned (.tuple #[.agg #[.bool s5, .slice p5 k5 c5, .slice q5 l5 d5, .bool sz5, .slice pz5 kz5 cz5, .slice qz5 lz5 dz5, .bool x5, .bool y5], .int .i64 (jcode2 (a, b, x1, y1) (a', b', x2, y2))]) ∧ Hid (GRep w' (.agg #[.bool s5, .slice p5 k5 c5, .slice q5 l5 d5, .bool sz5, .slice pz5 kz5 cz5, .slice qz5 lz5 dz5, .bool x5, .bool y5]) (jval2 jhull (a, b, x1, y1) (a', b', x2, y2))) ∧ Below w.heap.size w w' := by
 cases hL : (ilarge (a, b, x1, y1) || ilarge (a', b', x2, y2))
 ·have hc : jcode2 (a, b, x1, y1) (a', b', x2, y2) = 0 := by unfold jcode2; rw [hL]; rfl
  have hv : jval2 jhull (a, b, x1, y1) (a', b', x2, y2) = japi (jhull (jof (a, b, x1, y1)) (jof (a', b', x2, y2))) := by unfold jval2; rw [hL]; rfl
  rw [hc, hv]
  rw [Bool.or_eq_false_iff] at hL
  have hl1 : (large a.2.1 a.2.2 || large b.2.1 b.2.2) = false := hL.1
  have hl2 : (large a'.2.1 a'.2.2 || large b'.2.1 b'.2.2) = false := hL.2
  rw [Bool.or_eq_false_iff] at hl1 hl2
  exact jHull_ok s1 p1 k1 c1 q1 l1 d1 sz1 pz1 kz1 cz1 qz1 lz1 dz1 x1 y1 s2 p2 k2 c2 q2 l2 d2 sz2 pz2 kz2 cz2 qz2 lz2 dz2 x2 y2 (jof (a, b, x1, y1)) (jof (a', b', x2, y2)) w (JGood.of hl1.1 hl1.2) (JGood.of hl2.1 hl2.2) fun W hW =>
   jTwo_ok s1 p1 k1 c1 q1 l1 d1 sz1 pz1 kz1 cz1 qz1 lz1 dz1 x1 y1 s2 p2 k2 c2 q2 l2 d2 sz2 pz2 kz2 cz2 qz2 lz2 dz2 x2 y2 a b a' b' 0 W (ha.below hW) (hb.below hW) (ha'.below hW) (hb'.below hW) hl1.1 hl1.2 hl2.1 hl2.2 (by omega) (by omega)
 ·have hc : jcode2 (a, b, x1, y1) (a', b', x2, y2) = 1 := by unfold jcode2; rw [hL]; rfl
  have hv : jval2 jhull (a, b, x1, y1) (a', b', x2, y2) = gzero := by unfold jval2; rw [hL]; rfl
  rw [hc, hv]
  exact jHull_err s1 p1 k1 c1 q1 l1 d1 sz1 pz1 kz1 cz1 qz1 lz1 dz1 x1 y1 s2 p2 k2 c2 q2 l2 d2 sz2 pz2 kz2 cz2 qz2 lz2 dz2 x2 y2 w fun W hW => by
   cases hl : ilarge (a, b, x1, y1)
   ·rw [hl, Bool.false_or] at hL
    exact jTwo_l2 s1 p1 k1 c1 q1 l1 d1 sz1 pz1 kz1 cz1 qz1 lz1 dz1 x1 y1 s2 p2 k2 c2 q2 l2 d2 sz2 pz2 kz2 cz2 qz2 lz2 dz2 x2 y2 a b a' b' 0 W (ha.below hW) (hb.below hW) (ha'.below hW) (hb'.below hW) hl hL
   ·exact jTwo_l1 s1 p1 k1 c1 q1 l1 d1 sz1 pz1 kz1 cz1 qz1 lz1 dz1 x1 y1 s2 p2 k2 c2 q2 l2 d2 sz2 pz2 kz2 cz2 qz2 lz2 dz2 x2 y2 a b 0 W (ha.below hW) (hb.below hW) hl
end Go.Proofs.YtimjoejkjgklaaaGreatDoor
namespace Go.Proofs.YtimjoejkjgklaaaGreatDoor
open Go.RowKit Dg
theorem yes_sameM (b : Bool) (c : Int) (w : World) : Calls Tryz.prog 19 #[.bool b, .int .i64 c, .bool b, .int .i64 c] w fun e w' => e = .returned (.bool true) ∧ w = w' := by
 have hb : (b == b) = true := by cases b <;> rfl
 go_enter Tryz.func19, Tryz.ntmps19
 go_wp2_with fail
 go_ret
 exact ⟨rfl, rfl⟩
theorem iMeet_j (s1 : Bool) (p1 : Option Addr) (k1 c1 : Nat) (q1 : Option Addr) (l1 d1 : Nat) (sz1 : Bool) (pz1 : Option Addr) (kz1 cz1 : Nat) (qz1 : Option Addr) (lz1 dz1 : Nat) (x1 : Bool) (y1 : Bool) (s2 : Bool) (p2 : Option Addr) (k2 c2 : Nat) (q2 : Option Addr) (l2 d2 : Nat) (sz2 : Bool) (pz2 : Option Addr) (kz2 cz2 : Nat) (qz2 : Option Addr) (lz2 dz2 : Nat) (x2 : Bool) (y2 : Bool) (a b a' b' : Bool × Nat × Nat) (w : World) (ha : NRep w (.agg #[.bool s1, .slice p1 k1 c1, .slice q1 l1 d1]) a) (hb : NRep w (.agg #[.bool sz1, .slice pz1 kz1 cz1, .slice qz1 lz1 dz1]) b) (ha' : NRep w (.agg #[.bool s2, .slice p2 k2 c2, .slice q2 l2 d2]) a') (hb' : NRep w (.agg #[.bool sz2, .slice pz2 kz2 cz2, .slice qz2 lz2 dz2]) b') (ht : TabOk w) :
  Calls Tryz.prog 27 #[.agg #[.bool s1, .slice p1 k1 c1, .slice q1 l1 d1, .bool sz1, .slice pz1 kz1 cz1, .slice qz1 lz1 dz1, .bool x1, .bool y1], .agg #[.bool s2, .slice p2 k2 c2, .slice q2 l2 d2, .bool sz2, .slice pz2 kz2 cz2, .slice qz2 lz2 dz2, .bool x2, .bool y2]] w fun e w' => ∃ s5 p5 k5 c5 q5 l5 d5 sz5 pz5 kz5 cz5 qz5 lz5 dz5 x5 y5, e = .returned (.tuple #[.agg #[.bool s5, .slice p5 k5 c5, .slice q5 l5 d5, .bool sz5, .slice pz5 kz5 cz5, .slice qz5 lz5 dz5, .bool x5, .bool y5], .int .i64 (jcode2 (a, b, x1, y1) (a', b', x2, y2))]) ∧ Hid (GRep w' (.agg #[.bool s5, .slice p5 k5 c5, .slice q5 l5 d5, .bool sz5, .slice pz5 kz5 cz5, .slice qz5 lz5 dz5, .bool x5, .bool y5]) (jval2 jboth (a, b, x1, y1) (a', b', x2, y2))) ∧ Below w.heap.size w w' := by
 have h := iMeet_any s1 p1 k1 c1 q1 l1 d1 sz1 pz1 kz1 cz1 qz1 lz1 dz1 x1 y1 s2 p2 k2 c2 q2 l2 d2 sz2 pz2 kz2 cz2 qz2 lz2 dz2 x2 y2 a b a' b' w ha hb ha' hb' ht
 rw [m2_meet] at h
 exact h
theorem iHull_j (s1 : Bool) (p1 : Option Addr) (k1 c1 : Nat) (q1 : Option Addr) (l1 d1 : Nat) (sz1 : Bool) (pz1 : Option Addr) (kz1 cz1 : Nat) (qz1 : Option Addr) (lz1 dz1 : Nat) (x1 : Bool) (y1 : Bool) (s2 : Bool) (p2 : Option Addr) (k2 c2 : Nat) (q2 : Option Addr) (l2 d2 : Nat) (sz2 : Bool) (pz2 : Option Addr) (kz2 cz2 : Nat) (qz2 : Option Addr) (lz2 dz2 : Nat) (x2 : Bool) (y2 : Bool) (a b a' b' : Bool × Nat × Nat) (w : World) (ha : NRep w (.agg #[.bool s1, .slice p1 k1 c1, .slice q1 l1 d1]) a) (hb : NRep w (.agg #[.bool sz1, .slice pz1 kz1 cz1, .slice qz1 lz1 dz1]) b) (ha' : NRep w (.agg #[.bool s2, .slice p2 k2 c2, .slice q2 l2 d2]) a') (hb' : NRep w (.agg #[.bool sz2, .slice pz2 kz2 cz2, .slice qz2 lz2 dz2]) b') (ht : TabOk w) :
  Calls Tryz.prog 29 #[.agg #[.bool s1, .slice p1 k1 c1, .slice q1 l1 d1, .bool sz1, .slice pz1 kz1 cz1, .slice qz1 lz1 dz1, .bool x1, .bool y1], .agg #[.bool s2, .slice p2 k2 c2, .slice q2 l2 d2, .bool sz2, .slice pz2 kz2 cz2, .slice qz2 lz2 dz2, .bool x2, .bool y2]] w fun e w' => ∃ s5 p5 k5 c5 q5 l5 d5 sz5 pz5 kz5 cz5 qz5 lz5 dz5 x5 y5, e = .returned (.tuple #[.agg #[.bool s5, .slice p5 k5 c5, .slice q5 l5 d5, .bool sz5, .slice pz5 kz5 cz5, .slice qz5 lz5 dz5, .bool x5, .bool y5], .int .i64 (jcode2 (a, b, x1, y1) (a', b', x2, y2))]) ∧ Hid (GRep w' (.agg #[.bool s5, .slice p5 k5 c5, .slice q5 l5 d5, .bool sz5, .slice pz5 kz5 cz5, .slice qz5 lz5 dz5, .bool x5, .bool y5]) (jval2 jhull (a, b, x1, y1) (a', b', x2, y2))) ∧ Below w.heap.size w w' := by
 have h := iHull_any s1 p1 k1 c1 q1 l1 d1 sz1 pz1 kz1 cz1 qz1 lz1 dz1 x1 y1 s2 p2 k2 c2 q2 l2 d2 sz2 pz2 kz2 cz2 qz2 lz2 dz2 x2 y2 a b a' b' w ha hb ha' hb' ht
 rw [h2_hull] at h
 exact h
theorem iInside_j (s1 : Bool) (p1 : Option Addr) (k1 c1 : Nat) (q1 : Option Addr) (l1 d1 : Nat) (sz1 : Bool) (pz1 : Option Addr) (kz1 cz1 : Nat) (qz1 : Option Addr) (lz1 dz1 : Nat) (x1 : Bool) (y1 : Bool) (s2 : Bool) (p2 : Option Addr) (k2 c2 : Nat) (q2 : Option Addr) (l2 d2 : Nat) (sz2 : Bool) (pz2 : Option Addr) (kz2 cz2 : Nat) (qz2 : Option Addr) (lz2 dz2 : Nat) (x2 : Bool) (y2 : Bool) (a b a' b' : Bool × Nat × Nat) (w : World) (ha : NRep w (.agg #[.bool s1, .slice p1 k1 c1, .slice q1 l1 d1]) a) (hb : NRep w (.agg #[.bool sz1, .slice pz1 kz1 cz1, .slice qz1 lz1 dz1]) b) (ha' : NRep w (.agg #[.bool s2, .slice p2 k2 c2, .slice q2 l2 d2]) a') (hb' : NRep w (.agg #[.bool sz2, .slice pz2 kz2 cz2, .slice qz2 lz2 dz2]) b') (ht : TabOk w) :
  Calls Tryz.prog 25 #[.agg #[.bool s1, .slice p1 k1 c1, .slice q1 l1 d1, .bool sz1, .slice pz1 kz1 cz1, .slice qz1 lz1 dz1, .bool x1, .bool y1], .agg #[.bool s2, .slice p2 k2 c2, .slice q2 l2 d2, .bool sz2, .slice pz2 kz2 cz2, .slice qz2 lz2 dz2, .bool x2, .bool y2]] w fun e w' => e = .returned (.tuple #[.bool (jin2 (a, b, x1, y1) (a', b', x2, y2)), .int .i64 (jcode2 (a, b, x1, y1) (a', b', x2, y2))]) ∧ Below w.heap.size w w' := by
 have h := iInside_any s1 p1 k1 c1 q1 l1 d1 sz1 pz1 kz1 cz1 qz1 lz1 dz1 x1 y1 s2 p2 k2 c2 q2 l2 d2 sz2 pz2 kz2 cz2 qz2 lz2 dz2 x2 y2 a b a' b' w ha hb ha' hb' ht
 rw [i2_inside] at h
 exact h
theorem IntervalMeets_iv (s1 : Bool) (p1 : Option Addr) (k1 c1 : Nat) (q1 : Option Addr) (l1 d1 : Nat) (sz1 : Bool) (pz1 : Option Addr) (kz1 cz1 : Nat) (qz1 : Option Addr) (lz1 dz1 : Nat) (x1 : Bool) (y1 : Bool) (s2 : Bool) (p2 : Option Addr) (k2 c2 : Nat) (q2 : Option Addr) (l2 d2 : Nat) (sz2 : Bool) (pz2 : Option Addr) (kz2 cz2 : Nat) (qz2 : Option Addr) (lz2 dz2 : Nat) (x2 : Bool) (y2 : Bool) (a b a' b' : Bool × Nat × Nat) (w : World) (ha : NRep w (.agg #[.bool s1, .slice p1 k1 c1, .slice q1 l1 d1]) a) (hb : NRep w (.agg #[.bool sz1, .slice pz1 kz1 cz1, .slice qz1 lz1 dz1]) b) (ha' : NRep w (.agg #[.bool s2, .slice p2 k2 c2, .slice q2 l2 d2]) a') (hb' : NRep w (.agg #[.bool sz2, .slice pz2 kz2 cz2, .slice qz2 lz2 dz2]) b') (ht : TabOk w) :
  Calls Tryz.prog 5 #[.agg #[.bool s1, .slice p1 k1 c1, .slice q1 l1 d1, .bool sz1, .slice pz1 kz1 cz1, .slice qz1 lz1 dz1, .bool x1, .bool y1], .agg #[.bool s2, .slice p2 k2 c2, .slice q2 l2 d2, .bool sz2, .slice pz2 kz2 cz2, .slice qz2 lz2 dz2, .bool x2, .bool y2]] w fun e w' => e = .returned (.bool true) ∧ Below w.heap.size w w' := by
 have HPI := hid (fun (W : World) (hW : Below w.heap.size w W) => iInside_j s1 p1 k1 c1 q1 l1 d1 sz1 pz1 kz1 cz1 qz1 lz1 dz1 x1 y1 s2 p2 k2 c2 q2 l2 d2 sz2 pz2 kz2 cz2 qz2 lz2 dz2 x2 y2 a b a' b' W (ha.below hW) (hb.below hW) (ha'.below hW) (hb'.below hW) (ht.below hW))
 have HRI := hid (fun (W : World) (hW : Below w.heap.size w W) => jInside_any s1 p1 k1 c1 q1 l1 d1 sz1 pz1 kz1 cz1 qz1 lz1 dz1 x1 y1 s2 p2 k2 c2 q2 l2 d2 sz2 pz2 kz2 cz2 qz2 lz2 dz2 x2 y2 a b a' b' W (ha.below hW) (hb.below hW) (ha'.below hW) (hb'.below hW))
 have HP0 := hid (fun (W : World) (hW : Below w.heap.size w W) => iMeet_j s1 p1 k1 c1 q1 l1 d1 sz1 pz1 kz1 cz1 qz1 lz1 dz1 x1 y1 s2 p2 k2 c2 q2 l2 d2 sz2 pz2 kz2 cz2 qz2 lz2 dz2 x2 y2 a b a' b' W (ha.below hW) (hb.below hW) (ha'.below hW) (hb'.below hW) (ht.below hW))
 have HR0 := hid (fun (W : World) (hW : Below w.heap.size w W) => jMeet_any s1 p1 k1 c1 q1 l1 d1 sz1 pz1 kz1 cz1 qz1 lz1 dz1 x1 y1 s2 p2 k2 c2 q2 l2 d2 sz2 pz2 kz2 cz2 qz2 lz2 dz2 x2 y2 a b a' b' W (ha.below hW) (hb.below hW) (ha'.below hW) (hb'.below hW))
 have HI0 := hid (fun (W : World) (s5 : Bool) (p5 : Option Addr) (k5 c5 : Nat) (q5 : Option Addr) (l5 d5 : Nat) (sz5 : Bool) (pz5 : Option Addr) (kz5 cz5 : Nat) (qz5 : Option Addr) (lz5 dz5 : Nat) (x5 : Bool) (y5 : Bool) (s6 : Bool) (p6 : Option Addr) (k6 c6 : Nat) (q6 : Option Addr) (l6 d6 : Nat) (sz6 : Bool) (pz6 : Option Addr) (kz6 cz6 : Nat) (qz6 : Option Addr) (lz6 dz6 : Nat) (x6 : Bool) (y6 : Bool) (h : GRep W (.agg #[.bool s5, .slice p5 k5 c5, .slice q5 l5 d5, .bool sz5, .slice pz5 kz5 cz5, .slice qz5 lz5 dz5, .bool x5, .bool y5]) (jval2 jboth (a, b, x1, y1) (a', b', x2, y2))) (h' : GRep W (.agg #[.bool s6, .slice p6 k6 c6, .slice q6 l6 d6, .bool sz6, .slice pz6 kz6 cz6, .slice qz6 lz6 dz6, .bool x6, .bool y6]) (jval2 jboth (a, b, x1, y1) (a', b', x2, y2))) => is3_any s5 p5 k5 c5 q5 l5 d5 sz5 pz5 kz5 cz5 qz5 lz5 dz5 x5 y5 s6 p6 k6 c6 q6 l6 d6 sz6 pz6 kz6 cz6 qz6 lz6 dz6 x6 y6 (jcode2 (a, b, x1, y1) (a', b', x2, y2)) _ W (jop_ok jboth_good) (jop_err _ _) h h')
 have HP1 := hid (fun (W : World) (hW : Below w.heap.size w W) => iHull_j s1 p1 k1 c1 q1 l1 d1 sz1 pz1 kz1 cz1 qz1 lz1 dz1 x1 y1 s2 p2 k2 c2 q2 l2 d2 sz2 pz2 kz2 cz2 qz2 lz2 dz2 x2 y2 a b a' b' W (ha.below hW) (hb.below hW) (ha'.below hW) (hb'.below hW) (ht.below hW))
 have HR1 := hid (fun (W : World) (hW : Below w.heap.size w W) => jHull_any s1 p1 k1 c1 q1 l1 d1 sz1 pz1 kz1 cz1 qz1 lz1 dz1 x1 y1 s2 p2 k2 c2 q2 l2 d2 sz2 pz2 kz2 cz2 qz2 lz2 dz2 x2 y2 a b a' b' W (ha.below hW) (hb.below hW) (ha'.below hW) (hb'.below hW))
 have HI1 := hid (fun (W : World) (s5 : Bool) (p5 : Option Addr) (k5 c5 : Nat) (q5 : Option Addr) (l5 d5 : Nat) (sz5 : Bool) (pz5 : Option Addr) (kz5 cz5 : Nat) (qz5 : Option Addr) (lz5 dz5 : Nat) (x5 : Bool) (y5 : Bool) (s6 : Bool) (p6 : Option Addr) (k6 c6 : Nat) (q6 : Option Addr) (l6 d6 : Nat) (sz6 : Bool) (pz6 : Option Addr) (kz6 cz6 : Nat) (qz6 : Option Addr) (lz6 dz6 : Nat) (x6 : Bool) (y6 : Bool) (h : GRep W (.agg #[.bool s5, .slice p5 k5 c5, .slice q5 l5 d5, .bool sz5, .slice pz5 kz5 cz5, .slice qz5 lz5 dz5, .bool x5, .bool y5]) (jval2 jhull (a, b, x1, y1) (a', b', x2, y2))) (h' : GRep W (.agg #[.bool s6, .slice p6 k6 c6, .slice q6 l6 d6, .bool sz6, .slice pz6 kz6 cz6, .slice qz6 lz6 dz6, .bool x6, .bool y6]) (jval2 jhull (a, b, x1, y1) (a', b', x2, y2))) => is3_any s5 p5 k5 c5 q5 l5 d5 sz5 pz5 kz5 cz5 qz5 lz5 dz5 x5 y5 s6 p6 k6 c6 q6 l6 d6 sz6 pz6 kz6 cz6 qz6 lz6 dz6 x6 y6 (jcode2 (a, b, x1, y1) (a', b', x2, y2)) _ W (jop_ok jhull_good) (jop_err _ _) h h')
 have HA := hid (fun (W : World) (hW : Below w.heap.size w W) => awake3_any W (ht.below hW))
 clear ha hb ha' hb' ht
 obtain ⟨ccI, hc⟩ : ∃ r, r = jcode2 (a, b, x1, y1) (a', b', x2, y2) := ⟨_, rfl⟩
 obtain ⟨bI, hD⟩ : ∃ r, r = jin2 (a, b, x1, y1) (a', b', x2, y2) := ⟨_, rfl⟩
 rw [← hc, ← hD] at HPI HRI
 rw [← hc] at HP0 HR0 HI0 HP1 HR1 HI1
 clear hc hD
 obtain ⟨D0, hD⟩ : ∃ r, r = jval2 jboth (a, b, x1, y1) (a', b', x2, y2) := ⟨_, rfl⟩
 rw [← hD] at HP0 HR0 HI0
 clear hD
 obtain ⟨D1, hD⟩ : ∃ r, r = jval2 jhull (a, b, x1, y1) (a', b', x2, y2) := ⟨_, rfl⟩
 rw [← hD] at HP1 HR1 HI1
 clear hD
 go_enter Tryz.func5, Tryz.ntmps5
 go_wp2_with fail
 generalize hA : World.alloc _ _ = W0
 have HV := hid (pre2_o hA nd8 nd8)
 clear hA
 have HB0 := hid HV.out.2.2
 have Hx0 := hid HV.out.1
 have Hx1 := hid HV.out.2.1
 clear HV
 refine (HPI.out _ (HB0.out)).mono ?_
 rintro e w11 ⟨rfl, hB11⟩
 have Hs1_x0 := hid ((Hx0.out).below hB11)
 have Hs1_x1 := hid ((Hx1.out).below hB11)
 have HB1 := hid ((HB0.out).trans ((hB11).mono (HB0.out).size))
 obtain ⟨m0_0, m0_1, m0_2, m0_3, m0_4, m0_5, m0_6, m0_7, _⟩ := (Hs1_x0.out).cells8
 obtain ⟨m1_0, m1_1, m1_2, m1_3, m1_4, m1_5, m1_6, m1_7, _⟩ := (Hs1_x1.out).cells8
 go_wp2_with fail
 refine (HRI.out _ (HB1.out)).mono ?_
 rintro e w12 ⟨rfl, hB12⟩
 clear m0_0 m0_1 m0_2 m0_3 m0_4 m0_5 m0_6 m0_7 m1_0 m1_1 m1_2 m1_3 m1_4 m1_5 m1_6 m1_7
 have Hs2_x0 := hid ((Hs1_x0.out).below hB12)
 have Hs2_x1 := hid ((Hs1_x1.out).below hB12)
 have HB2 := hid ((HB1.out).trans ((hB12).mono (HB1.out).size))
 obtain ⟨m0_0, m0_1, m0_2, m0_3, m0_4, m0_5, m0_6, m0_7, _⟩ := (Hs2_x0.out).cells8
 obtain ⟨m1_0, m1_1, m1_2, m1_3, m1_4, m1_5, m1_6, m1_7, _⟩ := (Hs2_x1.out).cells8
 go_wp2_with fail
 refine (HP0.out _ (HB2.out)).mono ?_
 rintro e w13 ⟨s13, p13, k13, c13, q13, l13, d13, sz13, pz13, kz13, cz13, qz13, lz13, dz13, x13, y13, rfl, hG13, hB13⟩
 clear m0_0 m0_1 m0_2 m0_3 m0_4 m0_5 m0_6 m0_7 m1_0 m1_1 m1_2 m1_3 m1_4 m1_5 m1_6 m1_7
 have Hs3_x0 := hid ((Hs2_x0.out).below hB13)
 have Hs3_x1 := hid ((Hs2_x1.out).below hB13)
 have HB3 := hid ((HB2.out).trans ((hB13).mono (HB2.out).size))
 go_upto_region 4 with fail
 have HX13 := hid (pre1 w13 [.bool s13, .slice p13 k13 c13, .slice q13 l13 d13, .bool sz13, .slice pz13 kz13 cz13, .slice qz13 lz13 dz13, .bool x13, .bool y13] 26 nd8)
 have hlt13_x0 := (Hs3_x0.out).lt
 have hlt13_x1 := (Hs3_x1.out).lt
 generalize w13.alloc (.cells #[.bool s13, .slice p13 k13 c13, .slice q13 l13 d13, .bool sz13, .slice pz13 kz13 cz13, .slice qz13 lz13 dz13, .bool x13, .bool y13] 26) = W13 at *
 have Hs4_x0 := hid ((Hs3_x0.out).below HX13.out.2)
 have Hs4_x1 := hid ((Hs3_x1.out).below HX13.out.2)
 have Hs4_g13 := hid ((hG13.out).below HX13.out.2)
 have HB4 := hid ((HB3.out).trans ((HX13.out.2).mono (HB3.out).size))
 have Hb13 := hid HX13.out.1
 obtain ⟨m0_0, m0_1, m0_2, m0_3, m0_4, m0_5, m0_6, m0_7, _⟩ := (Hs4_x0.out).cells8
 obtain ⟨m1_0, m1_1, m1_2, m1_3, m1_4, m1_5, m1_6, m1_7, _⟩ := (Hs4_x1.out).cells8
 obtain ⟨m2_0, m2_1, m2_2, m2_3, m2_4, m2_5, m2_6, m2_7, _⟩ := (Hb13.out).cells8
 go_wp2_with fail
 refine (HR0.out _ (HB4.out)).mono ?_
 rintro e w14 ⟨s14, p14, k14, c14, q14, l14, d14, sz14, pz14, kz14, cz14, qz14, lz14, dz14, x14, y14, rfl, hG14, hB14⟩
 clear m0_0 m0_1 m0_2 m0_3 m0_4 m0_5 m0_6 m0_7 m1_0 m1_1 m1_2 m1_3 m1_4 m1_5 m1_6 m1_7 m2_0 m2_1 m2_2 m2_3 m2_4 m2_5 m2_6 m2_7
 have Hs5_x0 := hid ((Hs4_x0.out).below hB14)
 have Hs5_x1 := hid ((Hs4_x1.out).below hB14)
 have Hs5_g13 := hid ((Hs4_g13.out).below hB14)
 have Hs5_b13 := hid ((Hb13.out).below hB14)
 have HB5 := hid ((HB4.out).trans ((hB14).mono (HB4.out).size))
 go_upto_region 5 with fail
 have HX14 := hid (pre1 w14 [.bool s14, .slice p14 k14 c14, .slice q14 l14 d14, .bool sz14, .slice pz14 kz14 cz14, .slice qz14 lz14 dz14, .bool x14, .bool y14] 26 nd8)
 have hlt14_x0 := (Hs5_x0.out).lt
 have hlt14_x1 := (Hs5_x1.out).lt
 have hlt14_b13 := (Hs5_b13.out).lt
 generalize w14.alloc (.cells #[.bool s14, .slice p14 k14 c14, .slice q14 l14 d14, .bool sz14, .slice pz14 kz14 cz14, .slice qz14 lz14 dz14, .bool x14, .bool y14] 26) = W14 at *
 have Hs6_x0 := hid ((Hs5_x0.out).below HX14.out.2)
 have Hs6_x1 := hid ((Hs5_x1.out).below HX14.out.2)
 have Hs6_g13 := hid ((Hs5_g13.out).below HX14.out.2)
 have Hs6_b13 := hid ((Hs5_b13.out).below HX14.out.2)
 have Hs6_g14 := hid ((hG14.out).below HX14.out.2)
 have HB6 := hid ((HB5.out).trans ((HX14.out.2).mono (HB5.out).size))
 have Hb14 := hid HX14.out.1
 obtain ⟨m0_0, m0_1, m0_2, m0_3, m0_4, m0_5, m0_6, m0_7, _⟩ := (Hs6_x0.out).cells8
 obtain ⟨m1_0, m1_1, m1_2, m1_3, m1_4, m1_5, m1_6, m1_7, _⟩ := (Hs6_x1.out).cells8
 obtain ⟨m2_0, m2_1, m2_2, m2_3, m2_4, m2_5, m2_6, m2_7, _⟩ := (Hs6_b13.out).cells8
 obtain ⟨m3_0, m3_1, m3_2, m3_3, m3_4, m3_5, m3_6, m3_7, _⟩ := (Hb14.out).cells8
 go_wp2_with fail
 refine (HP1.out _ (HB6.out)).mono ?_
 rintro e w15 ⟨s15, p15, k15, c15, q15, l15, d15, sz15, pz15, kz15, cz15, qz15, lz15, dz15, x15, y15, rfl, hG15, hB15⟩
 clear m0_0 m0_1 m0_2 m0_3 m0_4 m0_5 m0_6 m0_7 m1_0 m1_1 m1_2 m1_3 m1_4 m1_5 m1_6 m1_7 m2_0 m2_1 m2_2 m2_3 m2_4 m2_5 m2_6 m2_7 m3_0 m3_1 m3_2 m3_3 m3_4 m3_5 m3_6 m3_7
 have Hs7_x0 := hid ((Hs6_x0.out).below hB15)
 have Hs7_x1 := hid ((Hs6_x1.out).below hB15)
 have Hs7_g13 := hid ((Hs6_g13.out).below hB15)
 have Hs7_b13 := hid ((Hs6_b13.out).below hB15)
 have Hs7_g14 := hid ((Hs6_g14.out).below hB15)
 have Hs7_b14 := hid ((Hb14.out).below hB15)
 have HB7 := hid ((HB6.out).trans ((hB15).mono (HB6.out).size))
 go_upto_region 6 with fail
 have HX15 := hid (pre1 w15 [.bool s15, .slice p15 k15 c15, .slice q15 l15 d15, .bool sz15, .slice pz15 kz15 cz15, .slice qz15 lz15 dz15, .bool x15, .bool y15] 26 nd8)
 have hlt15_x0 := (Hs7_x0.out).lt
 have hlt15_x1 := (Hs7_x1.out).lt
 have hlt15_b13 := (Hs7_b13.out).lt
 have hlt15_b14 := (Hs7_b14.out).lt
 generalize w15.alloc (.cells #[.bool s15, .slice p15 k15 c15, .slice q15 l15 d15, .bool sz15, .slice pz15 kz15 cz15, .slice qz15 lz15 dz15, .bool x15, .bool y15] 26) = W15 at *
 have Hs8_x0 := hid ((Hs7_x0.out).below HX15.out.2)
 have Hs8_x1 := hid ((Hs7_x1.out).below HX15.out.2)
 have Hs8_g13 := hid ((Hs7_g13.out).below HX15.out.2)
 have Hs8_b13 := hid ((Hs7_b13.out).below HX15.out.2)
 have Hs8_g14 := hid ((Hs7_g14.out).below HX15.out.2)
 have Hs8_b14 := hid ((Hs7_b14.out).below HX15.out.2)
 have Hs8_g15 := hid ((hG15.out).below HX15.out.2)
 have HB8 := hid ((HB7.out).trans ((HX15.out.2).mono (HB7.out).size))
 have Hb15 := hid HX15.out.1
 obtain ⟨m0_0, m0_1, m0_2, m0_3, m0_4, m0_5, m0_6, m0_7, _⟩ := (Hs8_x0.out).cells8
 obtain ⟨m1_0, m1_1, m1_2, m1_3, m1_4, m1_5, m1_6, m1_7, _⟩ := (Hs8_x1.out).cells8
 obtain ⟨m2_0, m2_1, m2_2, m2_3, m2_4, m2_5, m2_6, m2_7, _⟩ := (Hs8_b13.out).cells8
 obtain ⟨m3_0, m3_1, m3_2, m3_3, m3_4, m3_5, m3_6, m3_7, _⟩ := (Hs8_b14.out).cells8
 obtain ⟨m4_0, m4_1, m4_2, m4_3, m4_4, m4_5, m4_6, m4_7, _⟩ := (Hb15.out).cells8
 go_wp2_with fail
 refine (HR1.out _ (HB8.out)).mono ?_
 rintro e w16 ⟨s16, p16, k16, c16, q16, l16, d16, sz16, pz16, kz16, cz16, qz16, lz16, dz16, x16, y16, rfl, hG16, hB16⟩
 clear m0_0 m0_1 m0_2 m0_3 m0_4 m0_5 m0_6 m0_7 m1_0 m1_1 m1_2 m1_3 m1_4 m1_5 m1_6 m1_7 m2_0 m2_1 m2_2 m2_3 m2_4 m2_5 m2_6 m2_7 m3_0 m3_1 m3_2 m3_3 m3_4 m3_5 m3_6 m3_7 m4_0 m4_1 m4_2 m4_3 m4_4 m4_5 m4_6 m4_7
 have Hs9_x0 := hid ((Hs8_x0.out).below hB16)
 have Hs9_x1 := hid ((Hs8_x1.out).below hB16)
 have Hs9_g13 := hid ((Hs8_g13.out).below hB16)
 have Hs9_b13 := hid ((Hs8_b13.out).below hB16)
 have Hs9_g14 := hid ((Hs8_g14.out).below hB16)
 have Hs9_b14 := hid ((Hs8_b14.out).below hB16)
 have Hs9_g15 := hid ((Hs8_g15.out).below hB16)
 have Hs9_b15 := hid ((Hb15.out).below hB16)
 have HB9 := hid ((HB8.out).trans ((hB16).mono (HB8.out).size))
 go_upto_region 7 with fail
 have HX16 := hid (pre1 w16 [.bool s16, .slice p16 k16 c16, .slice q16 l16 d16, .bool sz16, .slice pz16 kz16 cz16, .slice qz16 lz16 dz16, .bool x16, .bool y16] 26 nd8)
 have hlt16_x0 := (Hs9_x0.out).lt
 have hlt16_x1 := (Hs9_x1.out).lt
 have hlt16_b13 := (Hs9_b13.out).lt
 have hlt16_b14 := (Hs9_b14.out).lt
 have hlt16_b15 := (Hs9_b15.out).lt
 generalize w16.alloc (.cells #[.bool s16, .slice p16 k16 c16, .slice q16 l16 d16, .bool sz16, .slice pz16 kz16 cz16, .slice qz16 lz16 dz16, .bool x16, .bool y16] 26) = W16 at *
 have Hs10_x0 := hid ((Hs9_x0.out).below HX16.out.2)
 have Hs10_x1 := hid ((Hs9_x1.out).below HX16.out.2)
 have Hs10_g13 := hid ((Hs9_g13.out).below HX16.out.2)
 have Hs10_b13 := hid ((Hs9_b13.out).below HX16.out.2)
 have Hs10_g14 := hid ((Hs9_g14.out).below HX16.out.2)
 have Hs10_b14 := hid ((Hs9_b14.out).below HX16.out.2)
 have Hs10_g15 := hid ((Hs9_g15.out).below HX16.out.2)
 have Hs10_b15 := hid ((Hs9_b15.out).below HX16.out.2)
 have Hs10_g16 := hid ((hG16.out).below HX16.out.2)
 have HB10 := hid ((HB9.out).trans ((HX16.out.2).mono (HB9.out).size))
 have Hb16 := hid HX16.out.1
 obtain ⟨m0_0, m0_1, m0_2, m0_3, m0_4, m0_5, m0_6, m0_7, _⟩ := (Hs10_x0.out).cells8
 obtain ⟨m1_0, m1_1, m1_2, m1_3, m1_4, m1_5, m1_6, m1_7, _⟩ := (Hs10_x1.out).cells8
 obtain ⟨m2_0, m2_1, m2_2, m2_3, m2_4, m2_5, m2_6, m2_7, _⟩ := (Hs10_b13.out).cells8
 obtain ⟨m3_0, m3_1, m3_2, m3_3, m3_4, m3_5, m3_6, m3_7, _⟩ := (Hs10_b14.out).cells8
 obtain ⟨m4_0, m4_1, m4_2, m4_3, m4_4, m4_5, m4_6, m4_7, _⟩ := (Hs10_b15.out).cells8
 obtain ⟨m5_0, m5_1, m5_2, m5_3, m5_4, m5_5, m5_6, m5_7, _⟩ := (Hb16.out).cells8
 go_wp2_with fail
 refine (yes_sameM bI ccI _).mono ?_
 rintro e w17 ⟨rfl, rfl⟩
 go_wp2_with fail
 refine (HI0.out _ s13 p13 k13 c13 q13 l13 d13 sz13 pz13 kz13 cz13 qz13 lz13 dz13 x13 y13 s14 p14 k14 c14 q14 l14 d14 sz14 pz14 kz14 cz14 qz14 lz14 dz14 x14 y14 Hs10_g13.out Hs10_g14.out).mono ?_
 rintro e w18 ⟨rfl, hB18⟩
 clear m0_0 m0_1 m0_2 m0_3 m0_4 m0_5 m0_6 m0_7 m1_0 m1_1 m1_2 m1_3 m1_4 m1_5 m1_6 m1_7 m2_0 m2_1 m2_2 m2_3 m2_4 m2_5 m2_6 m2_7 m3_0 m3_1 m3_2 m3_3 m3_4 m3_5 m3_6 m3_7 m4_0 m4_1 m4_2 m4_3 m4_4 m4_5 m4_6 m4_7 m5_0 m5_1 m5_2 m5_3 m5_4 m5_5 m5_6 m5_7
 have Hs11_x0 := hid ((Hs10_x0.out).below hB18)
 have Hs11_x1 := hid ((Hs10_x1.out).below hB18)
 have Hs11_g13 := hid ((Hs10_g13.out).below hB18)
 have Hs11_b13 := hid ((Hs10_b13.out).below hB18)
 have Hs11_g14 := hid ((Hs10_g14.out).below hB18)
 have Hs11_b14 := hid ((Hs10_b14.out).below hB18)
 have Hs11_g15 := hid ((Hs10_g15.out).below hB18)
 have Hs11_b15 := hid ((Hs10_b15.out).below hB18)
 have Hs11_g16 := hid ((Hs10_g16.out).below hB18)
 have Hs11_b16 := hid ((Hb16.out).below hB18)
 have HB11 := hid ((HB10.out).trans ((hB18).mono (HB10.out).size))
 obtain ⟨m0_0, m0_1, m0_2, m0_3, m0_4, m0_5, m0_6, m0_7, _⟩ := (Hs11_x0.out).cells8
 obtain ⟨m1_0, m1_1, m1_2, m1_3, m1_4, m1_5, m1_6, m1_7, _⟩ := (Hs11_x1.out).cells8
 obtain ⟨m2_0, m2_1, m2_2, m2_3, m2_4, m2_5, m2_6, m2_7, _⟩ := (Hs11_b13.out).cells8
 obtain ⟨m3_0, m3_1, m3_2, m3_3, m3_4, m3_5, m3_6, m3_7, _⟩ := (Hs11_b14.out).cells8
 obtain ⟨m4_0, m4_1, m4_2, m4_3, m4_4, m4_5, m4_6, m4_7, _⟩ := (Hs11_b15.out).cells8
 obtain ⟨m5_0, m5_1, m5_2, m5_3, m5_4, m5_5, m5_6, m5_7, _⟩ := (Hs11_b16.out).cells8
 go_wp2_with fail
 refine (HI1.out _ s15 p15 k15 c15 q15 l15 d15 sz15 pz15 kz15 cz15 qz15 lz15 dz15 x15 y15 s16 p16 k16 c16 q16 l16 d16 sz16 pz16 kz16 cz16 qz16 lz16 dz16 x16 y16 Hs11_g15.out Hs11_g16.out).mono ?_
 rintro e w19 ⟨rfl, hB19⟩
 clear m0_0 m0_1 m0_2 m0_3 m0_4 m0_5 m0_6 m0_7 m1_0 m1_1 m1_2 m1_3 m1_4 m1_5 m1_6 m1_7 m2_0 m2_1 m2_2 m2_3 m2_4 m2_5 m2_6 m2_7 m3_0 m3_1 m3_2 m3_3 m3_4 m3_5 m3_6 m3_7 m4_0 m4_1 m4_2 m4_3 m4_4 m4_5 m4_6 m4_7 m5_0 m5_1 m5_2 m5_3 m5_4 m5_5 m5_6 m5_7
 have Hs12_x0 := hid ((Hs11_x0.out).below hB19)
 have Hs12_x1 := hid ((Hs11_x1.out).below hB19)
 have Hs12_g13 := hid ((Hs11_g13.out).below hB19)
 have Hs12_b13 := hid ((Hs11_b13.out).below hB19)
 have Hs12_g14 := hid ((Hs11_g14.out).below hB19)
 have Hs12_b14 := hid ((Hs11_b14.out).below hB19)
 have Hs12_g15 := hid ((Hs11_g15.out).below hB19)
 have Hs12_b15 := hid ((Hs11_b15.out).below hB19)
 have Hs12_g16 := hid ((Hs11_g16.out).below hB19)
 have Hs12_b16 := hid ((Hs11_b16.out).below hB19)
 have HB12 := hid ((HB11.out).trans ((hB19).mono (HB11.out).size))
 have HZ0 := hid (HB12.out)
 clear hG13 hG14 hG15 hG16
 go_wp2_with fail
 refine (HA.out _ HZ0.out).mono ?_
 rintro e w20 ⟨rfl, hB20⟩
 have HZ1 := hid (HZ0.out.trans (hB20.mono HZ0.out.size))
 go_wp2_with fail
 go_ret
 exact ⟨rfl, HZ1.out⟩
theorem IntervalMeets_any (v u : Value) (i j : (Bool × Nat × Nat) × (Bool × Nat × Nat) × Bool × Bool) (w : World) (ha : IRep w v i) (hb : IRep w u j) (ht : TabOk w) :
  Calls Tryz.prog 5 #[v, u] w fun e w' => e = .returned (.bool true) ∧ Below w.heap.size w w' := by
 obtain ⟨s1, p1, k1, c1, q1, l1, d1, sz1, pz1, kz1, cz1, qz1, lz1, dz1, x1, y1, rfl, h1, h2, rfl, rfl⟩ := ha
 obtain ⟨s2, p2, k2, c2, q2, l2, d2, sz2, pz2, kz2, cz2, qz2, lz2, dz2, x2, y2, rfl, h3, h4, rfl, rfl⟩ := hb
 exact IntervalMeets_iv s1 p1 k1 c1 q1 l1 d1 sz1 pz1 kz1 cz1 qz1 lz1 dz1 _ _ s2 p2 k2 c2 q2 l2 d2 sz2 pz2 kz2 cz2 qz2 lz2 dz2 _ _ i.1 i.2.1 j.1 j.2.1 w h1 h2 h3 h4 ht
end Go.Proofs.YtimjoejkjgklaaaGreatDoor
