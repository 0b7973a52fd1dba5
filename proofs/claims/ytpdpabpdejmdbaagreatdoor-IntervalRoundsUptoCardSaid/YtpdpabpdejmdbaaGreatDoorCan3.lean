/- Sets of the reference: Canonical. -/
import Derived.Test.YtpdpabpdejmdbaaGreatDoorApis
namespace Go.Proofs.YtpdpabpdejmdbaaGreatDoor
open Go.RowKit Dg

theorem GRep.parts {w : World} (s : Bool) (p : Option Addr) (k c : Nat) (q : Option Addr) (l d : Nat) (sz : Bool) (pz : Option Addr) (kz cz : Nat) (qz : Option Addr) (lz dz : Nat) (x : Bool) (y : Bool) {i : (Bool × Nat × Nat) × (Bool × Nat × Nat) × Bool × Bool} (h : GRep w (.agg #[.bool s, .slice p k c, .slice q l d, .bool sz, .slice pz kz cz, .slice qz lz dz, .bool x, .bool y]) i) : FNorm w (.agg #[.bool s, .slice p k c, .slice q l d]) i.1 ∧ FNorm w (.agg #[.bool sz, .slice pz kz cz, .slice qz lz dz]) i.2.1 ∧ x = i.2.2.1 ∧ y = i.2.2.2 := by
  obtain ⟨s2, p2, k2, c2, q2, l2, d2, sz2, pz2, kz2, cz2, qz2, lz2, dz2, x2, y2, hv, h1, h2, h3⟩ := h
  have e := Value.agg.inj hv
  simp at e
  obtain ⟨rfl, ⟨rfl, rfl, rfl⟩, ⟨rfl, rfl, rfl⟩, rfl, ⟨rfl, rfl, rfl⟩, ⟨rfl, rfl, rfl⟩, rfl, rfl⟩ := e
  exact ⟨h1, h2, h3⟩

set_option maxHeartbeats 4000000 in
set_option maxRecDepth 100000 in
theorem jCanonical_eq (s1 : Bool) (p1 : Option Addr) (k1 c1 : Nat) (q1 : Option Addr) (l1 d1 : Nat) (sz1 : Bool) (pz1 : Option Addr) (kz1 cz1 : Nat) (qz1 : Option Addr) (lz1 dz1 : Nat) (x1 : Bool) (y1 : Bool) (i : (Bool × Nat × Nat) × (Bool × Nat × Nat) × Bool × Bool) (r : (Bool × Nat × Nat) × (Bool × Nat × Nat) × Bool × Bool × Bool) (w : World) (hx : x1 = i.2.2.1) (hy : y1 = i.2.2.2) (hF1 : FNorm w (.agg #[.bool s1, .slice p1 k1 c1, .slice q1 l1 d1]) i.1) (hF2 : FNorm w (.agg #[.bool sz1, .slice pz1 kz1 cz1, .slice qz1 lz1 dz1]) i.2.1) (hJ : japi r = i) (hBd : JBd r)
    (h1 : ∀ W, Below w.heap.size w W → Calls Tryz.prog 110 #[.agg #[.bool s1, .slice p1 k1 c1, .slice q1 l1 d1]] W fun e w' => e = .returned (.bool true) ∧ Below W.heap.size W w')
    (h2 : ∀ W, Below w.heap.size w W → Calls Tryz.prog 110 #[.agg #[.bool sz1, .slice pz1 kz1 cz1, .slice qz1 lz1 dz1]] W fun e w' => e = .returned (.bool true) ∧ Below W.heap.size W w')
    (h3 : ∀ W, Below w.heap.size w W → Calls Tryz.prog 121 #[.agg #[.bool s1, .slice p1 k1 c1, .slice q1 l1 d1, .bool sz1, .slice pz1 kz1 cz1, .slice qz1 lz1 dz1, .bool x1, .bool y1]] W fun e w' => ∃ s3 p3 k3 c3 q3 l3 d3 sz3 pz3 kz3 cz3 qz3 lz3 dz3 x3 y3 e3, e = .returned (.agg #[.bool s3, .slice p3 k3 c3, .slice q3 l3 d3, .bool sz3, .slice pz3 kz3 cz3, .slice qz3 lz3 dz3, .bool x3, .bool y3, .bool e3]) ∧ Hid (JRep w' (.agg #[.bool s3, .slice p3 k3 c3, .slice q3 l3 d3, .bool sz3, .slice pz3 kz3 cz3, .slice qz3 lz3 dz3, .bool x3, .bool y3, .bool e3]) r) ∧ Below W.heap.size W w')
    (h4 : ∀ W v v', FNorm W v i.1 → FNorm W v' i.1 → Calls Tryz.prog 137 #[v, v'] W fun e w' => e = .returned (.bool true) ∧ Below W.heap.size W w')
    (h5 : ∀ W v v', FNorm W v i.2.1 → FNorm W v' i.2.1 → Calls Tryz.prog 137 #[v, v'] W fun e w' => e = .returned (.bool true) ∧ Below W.heap.size W w') :
    Calls Tryz.prog 74 #[.agg #[.bool s1, .slice p1 k1 c1, .slice q1 l1 d1, .bool sz1, .slice pz1 kz1 cz1, .slice qz1 lz1 dz1, .bool x1, .bool y1]] w fun e w' => e = .returned (.bool true) ∧ Below w.heap.size w w' := by
  have H1 := hid h1
  have H2 := hid h2
  have H3 := hid h3
  have HA := hid (fun (W : World) (s3 : Bool) (p3 : Option Addr) (k3 c3 : Nat) (q3 : Option Addr) (l3 d3 : Nat) (sz3 : Bool) (pz3 : Option Addr) (kz3 cz3 : Nat) (qz3 : Option Addr) (lz3 dz3 : Nat) (x3 : Bool) (y3 : Bool) (e3 : Bool) (h : JRep W (.agg #[.bool s3, .slice p3 k3 c3, .slice q3 l3 d3, .bool sz3, .slice pz3 kz3 cz3, .slice qz3 lz3 dz3, .bool x3, .bool y3, .bool e3]) r) => jApi_any s3 p3 k3 c3 q3 l3 d3 sz3 pz3 kz3 cz3 qz3 lz3 dz3 x3 y3 e3 r W h hBd)
  rw [hJ] at HA
  have H4 := hid (fun (W : World) (hb : Below w.heap.size w W) (v : Value) (hv : FNorm W v i.1) => h4 W v (.agg #[.bool s1, .slice p1 k1 c1, .slice q1 l1 d1]) hv (hF1.below hb))
  have H5 := hid (fun (W : World) (hb : Below w.heap.size w W) (v : Value) (hv : FNorm W v i.2.1) => h5 W v (.agg #[.bool sz1, .slice pz1 kz1 cz1, .slice qz1 lz1 dz1]) hv (hF2.below hb))
  have HX := hid (And.intro hx hy)
  have hxx : (x1 == x1) = true := by simp
  have hyy : (y1 == y1) = true := by simp
  clear h1 h2 h3 h4 h5 hF1 hF2 hJ hBd hx hy
  go_enter Tryz.func74, Tryz.ntmps74
  go_wp2_with fail
  have HV := hid (pre1 w [.bool s1, .slice p1 k1 c1, .slice q1 l1 d1, .bool sz1, .slice pz1 kz1 cz1, .slice qz1 lz1 dz1, .bool x1, .bool y1] 26 ⟨trivial, trivial, trivial, trivial, trivial, trivial, trivial, trivial, trivial⟩)
  generalize w.alloc (.cells #[.bool s1, .slice p1 k1 c1, .slice q1 l1 d1, .bool sz1, .slice pz1 kz1 cz1, .slice qz1 lz1 dz1, .bool x1, .bool y1] 26) = W0 at *
  refine (H1.out _ HV.out.2).mono ?_
  rintro e w1 ⟨rfl, hB1⟩
  have HE := hid (And.intro (HV.out.1.below hB1) (HV.out.2.trans (hB1.mono HV.out.2.size)))
  clear hB1
  obtain ⟨m0, m1, m2, m3, m4, m5, m6, m7, _⟩ := HE.out.1.cells8
  go_wp2_with fail
  refine (H2.out _ HE.out.2).mono ?_
  rintro e w2 ⟨rfl, hB2⟩
  have HE2 := hid (And.intro (HE.out.1.below hB2) (HE.out.2.trans (hB2.mono HE.out.2.size)))
  clear hB2 m0 m1 m2 m3 m4 m5 m6 m7
  obtain ⟨m0, m1, m2, m3, m4, m5, m6, m7, _⟩ := HE2.out.1.cells8
  go_wp2_with fail
  refine (H3.out _ HE2.out.2).mono ?_
  rintro e w3 ⟨s3, p3, k3, c3, q3, l3, d3, sz3, pz3, kz3, cz3, qz3, lz3, dz3, x3, y3, e3, rfl, hJ, hB3⟩
  have HE3 := hid (And.intro (HE2.out.1.below hB3) (HE2.out.2.trans (hB3.mono HE2.out.2.size)))
  clear hB3 m0 m1 m2 m3 m4 m5 m6 m7
  go_wp2_with fail
  refine (HA.out _ s3 p3 k3 c3 q3 l3 d3 sz3 pz3 kz3 cz3 qz3 lz3 dz3 x3 y3 e3 hJ.out).mono ?_
  rintro e w4 ⟨s4, p4, k4, c4, q4, l4, d4, sz4, pz4, kz4, cz4, qz4, lz4, dz4, x4, y4, rfl, hG, hB4⟩
  have HE4 := hid (And.intro (HE3.out.1.below hB4) (HE3.out.2.trans (hB4.mono HE3.out.2.size)))
  clear hB4 hJ
  have hP := GRep.parts s4 p4 k4 c4 q4 l4 d4 sz4 pz4 kz4 cz4 qz4 lz4 dz4 x4 y4 hG.out
  obtain ⟨hq1, hq2, hx4, hy4⟩ := hP
  obtain rfl : x4 = x1 := hx4.trans HX.out.1.symm
  obtain rfl : y4 = y1 := hy4.trans HX.out.2.symm
  have HQ := hid (And.intro hq1 hq2)
  clear hq1 hq2 hx4 hy4 HX hG
  go_upto_region 4 with fail
  have HN := hid (pre1 w4 [.bool s4, .slice p4 k4 c4, .slice q4 l4 d4, .bool sz4, .slice pz4 kz4 cz4, .slice qz4 lz4 dz4, .bool x4, .bool y4] 26 ⟨trivial, trivial, trivial, trivial, trivial, trivial, trivial, trivial, trivial⟩)
  have hlt : w.heap.size < w4.heap.size := HE4.out.1.lt
  generalize w4.alloc (.cells #[.bool s4, .slice p4 k4 c4, .slice q4 l4 d4, .bool sz4, .slice pz4 kz4 cz4, .slice qz4 lz4 dz4, .bool x4, .bool y4] 26) = W4 at *
  have HE5 := hid (And.intro (HE4.out.1.below HN.out.2) (HE4.out.2.trans (HN.out.2.mono HE4.out.2.size)))
  have HQ5 := hid (And.intro (FNorm.below HQ.out.1 HN.out.2) (FNorm.below HQ.out.2 HN.out.2))
  clear HQ
  obtain ⟨m0, m1, m2, m3, m4, m5, m6, m7, _⟩ := HE5.out.1.cells8
  obtain ⟨n0, n1, n2, n3, n4, n5, n6, n7, _⟩ := HN.out.1.cells8
  go_wp2_with fail
  refine (H4.out _ HE5.out.2 _ HQ5.out.1).mono ?_
  rintro e w5 ⟨rfl, hB5⟩
  have HE6 := hid (And.intro (HE5.out.1.below hB5) (HE5.out.2.trans (hB5.mono HE5.out.2.size)))
  have HN6 := hid (HN.out.1.below hB5)
  have HQ6 := hid (FNorm.below HQ5.out.2 hB5)
  clear hB5 m0 m1 m2 m3 m4 m5 m6 m7 n0 n1 n2 n3 n4 n5 n6 n7 HQ5
  obtain ⟨m0, m1, m2, m3, m4, m5, m6, m7, _⟩ := HE6.out.1.cells8
  obtain ⟨n0, n1, n2, n3, n4, n5, n6, n7, _⟩ := HN6.out.cells8
  go_wp2_with fail
  refine (H5.out _ HE6.out.2 _ HQ6.out).mono ?_
  rintro e w6 ⟨rfl, hB6⟩
  have HE7 := hid (HE6.out.2.trans (hB6.mono HE6.out.2.size))
  clear hB6
  go_wp2_with fail
  go_ret
  exact ⟨rfl, HE7.out⟩
end Go.Proofs.YtpdpabpdejmdbaaGreatDoor
