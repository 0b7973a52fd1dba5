/- The laws on intervals: Is. -/
import Derived.Test.YtpdpabpdejmdbaaGreatDoorSam
import Derived.Test.YtpdpabpdejmdbaaGreatDoorCan3
namespace Go.Proofs.YtpdpabpdejmdbaaGreatDoor
open Go.RowKit Dg

set_option maxHeartbeats 4000000 in
set_option maxRecDepth 100000 in
theorem rSame_eq (s1 : Bool) (p1 : Option Addr) (k1 c1 : Nat) (q1 : Option Addr) (l1 d1 : Nat) (s2 : Bool) (p2 : Option Addr) (k2 c2 : Nat) (q2 : Option Addr) (l2 d2 : Nat) (t : Bool × Nat × Nat) (w : World) (h1 : NRep w (.agg #[.bool s1, .slice p1 k1 c1, .slice q1 l1 d1]) t) (h2 : NRep w (.agg #[.bool s2, .slice p2 k2 c2, .slice q2 l2 d2]) t) (hL : large t.2.1 t.2.2 = false) :
    Calls Tryz.prog 137 #[.agg #[.bool s1, .slice p1 k1 c1, .slice q1 l1 d1], .agg #[.bool s2, .slice p2 k2 c2, .slice q2 l2 d2]] w fun e w' => e = .returned (.bool true) ∧ Below w.heap.size w w' := by
  have HO1 := hid (fun (W : World) (hW : Below w.heap.size w W) => rOfF_any (.agg #[.bool s1, .slice p1 k1 c1, .slice q1 l1 d1]) t W (h1.below hW) hL)
  have HO2 := hid (fun (W : World) (hW : Below w.heap.size w W) => rOfF_any (.agg #[.bool s2, .slice p2 k2 c2, .slice q2 l2 d2]) t W (h2.below hW) hL)
  have HC := hid (fun (W : World) (v1 v2 : Value) (q1 : QNorm W v1 (fr t)) (q2 : QNorm W v2 (fr t)) => rCmp_self v1 v2 (fr t) W q1 q2 (.inl (qok_fr hL)))
  clear h1 h2 hL
  obtain ⟨r, hr⟩ : ∃ r, r = fr t := ⟨_, rfl⟩
  rw [← hr] at HO1 HO2 HC
  clear hr
  go_enter Tryz.func137, Tryz.ntmps137
  go_upto_region 1 with fail
  have HV := hid (pre2 w [.bool s1, .slice p1 k1 c1, .slice q1 l1 d1] [.bool s2, .slice p2 k2 c2, .slice q2 l2 d2] 24 24 ⟨trivial, trivial, trivial, trivial⟩ ⟨trivial, trivial, trivial, trivial⟩)
  generalize (w.alloc (.cells #[.bool s1, .slice p1 k1 c1, .slice q1 l1 d1] 24)).alloc (.cells #[.bool s2, .slice p2 k2 c2, .slice q2 l2 d2] 24) = W0 at *
  have HQ := hid (QQ.i2 (cs := [.bool s1, .slice p1 k1 c1, .slice q1 l1 d1]) (cs' := [.bool s2, .slice p2 k2 c2, .slice q2 l2 d2]) HV.out.1 HV.out.2.1 HV.out.2.2)
  have HS : Hid (∀ w', QQ w [(w.heap.size, [.bool s1, .slice p1 k1 c1, .slice q1 l1 d1]), (w.heap.size + 1, [.bool s2, .slice p2 k2 c2, .slice q2 l2 d2])] w' → (w'.cell? ⟨w.heap.size, 0, none⟩ = some (.bool s1) ∧ w'.cell? ⟨w.heap.size, 1, none⟩ = some (.slice p1 k1 c1) ∧ w'.cell? ⟨w.heap.size, 2, none⟩ = some (.slice q1 l1 d1) ∧ w'.cell? ⟨w.heap.size + 1, 0, none⟩ = some (.bool s2) ∧ w'.cell? ⟨w.heap.size + 1, 1, none⟩ = some (.slice p2 k2 c2) ∧ w'.cell? ⟨w.heap.size + 1, 2, none⟩ = some (.slice q2 l2 d2) ∧ Hid (QQ w [(w.heap.size, [.bool s1, .slice p1 k1 c1, .slice q1 l1 d1]), (w.heap.size + 1, [.bool s2, .slice p2 k2 c2, .slice q2 l2 d2])] w'))) :=
    hid fun w' hb => ⟨(hb.b1.cells3).1, (hb.b1.cells3).2.1, (hb.b1.cells3).2.2.1, (hb.b2.cells3).1, (hb.b2.cells3).2.1, (hb.b2.cells3).2.2.1, hid hb⟩
  go_region_held3 (fun w' => w'.cell? ⟨w.heap.size, 0, none⟩ = some (.bool s1) ∧ w'.cell? ⟨w.heap.size, 1, none⟩ = some (.slice p1 k1 c1) ∧ w'.cell? ⟨w.heap.size, 2, none⟩ = some (.slice q1 l1 d1) ∧ w'.cell? ⟨w.heap.size + 1, 0, none⟩ = some (.bool s2) ∧ w'.cell? ⟨w.heap.size + 1, 1, none⟩ = some (.slice p2 k2 c2) ∧ w'.cell? ⟨w.heap.size + 1, 2, none⟩ = some (.slice q2 l2 d2) ∧ Hid (QQ w [(w.heap.size, [.bool s1, .slice p1 k1 c1, .slice q1 l1 d1]), (w.heap.size + 1, [.bool s2, .slice p2 k2 c2, .slice q2 l2 d2])] w'))
    (first | (refine HS.out _ ?_; first | (with_reducible exact HQ.out.drew) | (with_reducible assumption)))
    (first
      | (go_at_call_of 70 p1; refine (HO1.out _ HQ.out.drew.bel).mono ?_; rintro e wa ⟨s3, p3, k3, c3, q3, l3, d3, rfl, hF3, hB1⟩; have hQ1 := HQ.out.drew.call hB1)
      | (go_at_call_of 70 p2; refine (HO2.out _ hQ1.bel).mono ?_; rintro e wb ⟨s4, p4, k4, c4, q4, l4, d4, rfl, hF4, hB2⟩; have hQ2 := hQ1.call hB2; have hF5 := hid (QNorm.below hF3.out hB2))
      | (go_at_call 122; refine (HC.out _ _ _ hF5.out hF4.out).mono ?_; rintro e wd ⟨rfl, hB3⟩; have hQ3 := hQ2.call hB3))
  all_goals
    have HE5 := hid hQ3.bel
    clear hQ1 hQ2 hQ3 hB1 hB2 hB3 hF3 hF4 hF5
    go_wp2_with fail
    go_ret
    exact ⟨rfl, HE5.out⟩

set_option maxHeartbeats 4000000 in
set_option maxRecDepth 100000 in
theorem is3_eq (s1 : Bool) (p1 : Option Addr) (k1 c1 : Nat) (q1 : Option Addr) (l1 d1 : Nat) (sz1 : Bool) (pz1 : Option Addr) (kz1 cz1 : Nat) (qz1 : Option Addr) (lz1 dz1 : Nat) (x1 : Bool) (y1 : Bool) (s2 : Bool) (p2 : Option Addr) (k2 c2 : Nat) (q2 : Option Addr) (l2 d2 : Nat) (sz2 : Bool) (pz2 : Option Addr) (kz2 cz2 : Nat) (qz2 : Option Addr) (lz2 dz2 : Nat) (x2 : Bool) (y2 : Bool) (w : World)
    (hC : ∀ W, Below w.heap.size w W → Calls Tryz.prog 74 #[.agg #[.bool s1, .slice p1 k1 c1, .slice q1 l1 d1, .bool sz1, .slice pz1 kz1 cz1, .slice qz1 lz1 dz1, .bool x1, .bool y1]] W fun e w' => e = .returned (.bool true) ∧ Below W.heap.size W w')
    (hS : ∀ W, Below w.heap.size w W → Calls Tryz.prog 60 #[.agg #[.bool s1, .slice p1 k1 c1, .slice q1 l1 d1, .bool sz1, .slice pz1 kz1 cz1, .slice qz1 lz1 dz1, .bool x1, .bool y1], .agg #[.bool s2, .slice p2 k2 c2, .slice q2 l2 d2, .bool sz2, .slice pz2 kz2 cz2, .slice qz2 lz2 dz2, .bool x2, .bool y2]] W fun e w' => e = .returned (.bool true) ∧ Below W.heap.size W w') :
    Calls Tryz.prog 23 #[.agg #[.bool s1, .slice p1 k1 c1, .slice q1 l1 d1, .bool sz1, .slice pz1 kz1 cz1, .slice qz1 lz1 dz1, .bool x1, .bool y1], .int .i64 0, .agg #[.bool s2, .slice p2 k2 c2, .slice q2 l2 d2, .bool sz2, .slice pz2 kz2 cz2, .slice qz2 lz2 dz2, .bool x2, .bool y2], .int .i64 0] w fun e w' => e = .returned (.bool true) ∧ Below w.heap.size w w' := by
  have HC := hid hC
  have HS := hid hS
  clear hC hS
  go_enter Tryz.func23, Tryz.ntmps23
  go_wp2_with fail
  have HV := hid (pre2 w [.bool s1, .slice p1 k1 c1, .slice q1 l1 d1, .bool sz1, .slice pz1 kz1 cz1, .slice qz1 lz1 dz1, .bool x1, .bool y1] [.bool s2, .slice p2 k2 c2, .slice q2 l2 d2, .bool sz2, .slice pz2 kz2 cz2, .slice qz2 lz2 dz2, .bool x2, .bool y2] 26 26 ⟨trivial, trivial, trivial, trivial, trivial, trivial, trivial, trivial, trivial⟩ ⟨trivial, trivial, trivial, trivial, trivial, trivial, trivial, trivial, trivial⟩)
  generalize (w.alloc (.cells #[.bool s1, .slice p1 k1 c1, .slice q1 l1 d1, .bool sz1, .slice pz1 kz1 cz1, .slice qz1 lz1 dz1, .bool x1, .bool y1] 26)).alloc (.cells #[.bool s2, .slice p2 k2 c2, .slice q2 l2 d2, .bool sz2, .slice pz2 kz2 cz2, .slice qz2 lz2 dz2, .bool x2, .bool y2] 26) = W0 at *
  refine (HC.out _ HV.out.2.2).mono ?_
  rintro e w1 ⟨rfl, hB1⟩
  have HE := hid (And.intro (HV.out.1.below hB1) (And.intro (HV.out.2.1.below hB1) (HV.out.2.2.trans (hB1.mono HV.out.2.2.size))))
  clear hB1
  obtain ⟨m0, m1, m2, m3, m4, m5, m6, m7, _⟩ := HE.out.1.cells8
  obtain ⟨n0, n1, n2, n3, n4, n5, n6, n7, _⟩ := HE.out.2.1.cells8
  go_wp2_with fail
  refine (HS.out _ HE.out.2.2).mono ?_
  rintro e w2 ⟨rfl, hB2⟩
  have HE2 := hid (HE.out.2.2.trans (hB2.mono HE.out.2.2.size))
  clear hB2
  go_wp2_with fail
  go_ret
  exact ⟨rfl, HE2.out⟩

set_option maxHeartbeats 4000000 in
set_option maxRecDepth 100000 in
theorem none3_any (s1 : Bool) (p1 : Option Addr) (k1 c1 : Nat) (q1 : Option Addr) (l1 d1 : Nat) (sz1 : Bool) (pz1 : Option Addr) (kz1 cz1 : Nat) (qz1 : Option Addr) (lz1 dz1 : Nat) (x1 : Bool) (y1 : Bool) (w : World) (hG : GRep w (.agg #[.bool s1, .slice p1 k1 c1, .slice q1 l1 d1, .bool sz1, .slice pz1 kz1 cz1, .slice qz1 lz1 dz1, .bool x1, .bool y1]) gzero) : Calls Tryz.prog 73 #[.agg #[.bool s1, .slice p1 k1 c1, .slice q1 l1 d1, .bool sz1, .slice pz1 kz1 cz1, .slice qz1 lz1 dz1, .bool x1, .bool y1]] w fun e w' => e = .returned (.bool true) ∧ Below w.heap.size w w' := by
  obtain ⟨h1, h2, hx, hy⟩ := GRep.parts s1 p1 k1 c1 q1 l1 d1 sz1 pz1 kz1 cz1 qz1 lz1 dz1 x1 y1 hG
  have HN := hid (fun (W : World) (hW : Below w.heap.size w W) => None_any (.agg #[.bool s1, .slice p1 k1 c1, .slice q1 l1 d1]) W (FNorm.below h1 hW))
  have HM := hid (fun (W : World) (hW : Below w.heap.size w W) => None_any (.agg #[.bool sz1, .slice pz1 kz1 cz1, .slice qz1 lz1 dz1]) W (FNorm.below h2 hW))
  have hx' : x1 = false := hx
  have hy' : y1 = false := hy
  subst hx' hy'
  clear hG h1 h2 hx hy
  go_enter Tryz.func73, Tryz.ntmps73
  go_wp2_with fail
  have HV := hid (pre1 w [.bool s1, .slice p1 k1 c1, .slice q1 l1 d1, .bool sz1, .slice pz1 kz1 cz1, .slice qz1 lz1 dz1, .bool false, .bool false] 26 ⟨trivial, trivial, trivial, trivial, trivial, trivial, trivial, trivial, trivial⟩)
  generalize w.alloc (.cells #[.bool s1, .slice p1 k1 c1, .slice q1 l1 d1, .bool sz1, .slice pz1 kz1 cz1, .slice qz1 lz1 dz1, .bool false, .bool false] 26) = W0 at *
  refine (HN.out W0 HV.out.2).mono ?_
  rintro e w1 ⟨rfl, hB1⟩
  have HE := hid (And.intro (HV.out.1.below hB1) (HV.out.2.trans (hB1.mono HV.out.2.size)))
  clear hB1
  obtain ⟨m0, m1, m2, m3, m4, m5, m6, m7, _⟩ := HE.out.1.cells8
  go_wp2_with fail
  refine (HM.out w1 HE.out.2).mono ?_
  rintro e w2 ⟨rfl, hB2⟩
  have HE2 := hid (And.intro (HE.out.1.below hB2) (HE.out.2.trans (hB2.mono HE.out.2.size)))
  clear hB2 m0 m1 m2 m3 m4 m5 m6 m7
  obtain ⟨m0, m1, m2, m3, m4, m5, m6, m7, _⟩ := HE2.out.1.cells8
  go_wp2_with fail
  go_ret
  exact ⟨rfl, HE2.out.2⟩

set_option maxHeartbeats 4000000 in
set_option maxRecDepth 100000 in
theorem is3_err (s1 : Bool) (p1 : Option Addr) (k1 c1 : Nat) (q1 : Option Addr) (l1 d1 : Nat) (sz1 : Bool) (pz1 : Option Addr) (kz1 cz1 : Nat) (qz1 : Option Addr) (lz1 dz1 : Nat) (x1 : Bool) (y1 : Bool) (s2 : Bool) (p2 : Option Addr) (k2 c2 : Nat) (q2 : Option Addr) (l2 d2 : Nat) (sz2 : Bool) (pz2 : Option Addr) (kz2 cz2 : Nat) (qz2 : Option Addr) (lz2 dz2 : Nat) (x2 : Bool) (y2 : Bool) (c : Int) (w : World) (hc : c ≠ 0) (hG : GRep w (.agg #[.bool s1, .slice p1 k1 c1, .slice q1 l1 d1, .bool sz1, .slice pz1 kz1 cz1, .slice qz1 lz1 dz1, .bool x1, .bool y1]) gzero) :
    Calls Tryz.prog 23 #[.agg #[.bool s1, .slice p1 k1 c1, .slice q1 l1 d1, .bool sz1, .slice pz1 kz1 cz1, .slice qz1 lz1 dz1, .bool x1, .bool y1], .int .i64 c, .agg #[.bool s2, .slice p2 k2 c2, .slice q2 l2 d2, .bool sz2, .slice pz2 kz2 cz2, .slice qz2 lz2 dz2, .bool x2, .bool y2], .int .i64 c] w fun e w' => e = .returned (.bool true) ∧ Below w.heap.size w w' := by
  have h1 : (c != c) = false := by simp
  have h2 : (c != 0) = true := by simpa using hc
  have HN := hid (fun (W : World) (hW : Below w.heap.size w W) => none3_any s1 p1 k1 c1 q1 l1 d1 sz1 pz1 kz1 cz1 qz1 lz1 dz1 x1 y1 W (hG.below hW))
  clear hc hG
  go_enter Tryz.func23, Tryz.ntmps23
  go_wp2_with fail
  have HV := hid (pre2 w [.bool s1, .slice p1 k1 c1, .slice q1 l1 d1, .bool sz1, .slice pz1 kz1 cz1, .slice qz1 lz1 dz1, .bool x1, .bool y1] [.bool s2, .slice p2 k2 c2, .slice q2 l2 d2, .bool sz2, .slice pz2 kz2 cz2, .slice qz2 lz2 dz2, .bool x2, .bool y2] 26 26 ⟨trivial, trivial, trivial, trivial, trivial, trivial, trivial, trivial, trivial⟩ ⟨trivial, trivial, trivial, trivial, trivial, trivial, trivial, trivial, trivial⟩)
  generalize (w.alloc (.cells #[.bool s1, .slice p1 k1 c1, .slice q1 l1 d1, .bool sz1, .slice pz1 kz1 cz1, .slice qz1 lz1 dz1, .bool x1, .bool y1] 26)).alloc (.cells #[.bool s2, .slice p2 k2 c2, .slice q2 l2 d2, .bool sz2, .slice pz2 kz2 cz2, .slice qz2 lz2 dz2, .bool x2, .bool y2] 26) = W0 at *
  refine (HN.out W0 HV.out.2.2).mono ?_
  rintro e w1 ⟨rfl, hB1⟩
  have HE := hid (HV.out.2.2.trans (hB1.mono HV.out.2.2.size))
  clear hB1
  go_wp2_with fail
  go_ret
  exact ⟨rfl, HE.out⟩
end Go.Proofs.YtpdpabpdejmdbaaGreatDoor
