/- The law NumberGridRoots. -/
import Derived.Test.YtjnfnngobkjneaaGreatDoorGrtU
namespace Go.Proofs.YtjnfnngobkjneaaGreatDoor
open Go.RowKit Dg Rt

set_option maxHeartbeats 16000000 in
set_option maxRecDepth 100000 in
theorem NumberGridRoots_any (vx : Value) (x : Bool × Nat × Nat) (q p : Int) (w : World) (hx : NRep w vx x) (_hlq : -9223372036854775808 ≤ q) (_hhq : q < 9223372036854775808) (_hlo : -9223372036854775808 ≤ p) (_hhi : p < 9223372036854775808) (ht : TabOk w) :
    Calls Tryz.prog 3 #[vx, .int .i64 q, .int .i64 p] w fun e w' => e = .returned (.bool true) ∧ Below w.heap.size w w' := by
  have HX := hid hx
  obtain ⟨_, _, rfl, ⟨pa, ka, ca, rfl, _⟩, ⟨pb, kb, cb, rfl, _⟩⟩ := hx
  obtain ⟨sx, hsx⟩ : ∃ s, s = x.1 := ⟨_, rfl⟩
  have hal := (Below.refl w.heap.size w).alloc (Nat.le_refl _) (.cells #[.bool sx, .slice pa ka ca, .slice pb kb cb] 24)
  have hV := Var3.alloc w (x := .bool sx) (y := .slice pa ka ca) (z := .slice pb kb cb) 24 trivial trivial trivial
  rw [← hsx] at HX ⊢
  clear hsx
  have HX0 := hid (HX.out.below hal)
  have HT0 := hid (ht.below hal)
  have HB := hid hal
  have HVx := hid hV
  clear HX ht hal hV
  obtain ⟨g1, hg1⟩ : ∃ g, g = ucode x.2.1 x.2.2 (gcode (fr x) q p) (grdn (fr x) q.toNat p.toNat) := ⟨_, rfl⟩
  obtain ⟨r1, hr1⟩ : ∃ g, g = resT (ucode x.2.1 x.2.2 (gcode (fr x) q p) (grdn (fr x) q.toNat p.toNat)) (grdn (fr x) q.toNat p.toNat) := ⟨_, rfl⟩
  obtain ⟨g2, hg2⟩ : ∃ g, g = ucode x.2.1 x.2.2 (gcode (fr x) q p) (grup (fr x) q.toNat p.toNat) := ⟨_, rfl⟩
  obtain ⟨r2, hr2⟩ : ∃ g, g = resT (ucode x.2.1 x.2.2 (gcode (fr x) q p) (grup (fr x) q.toNat p.toNat)) (grup (fr x) q.toNat p.toNat) := ⟨_, rfl⟩
  have HI1 := hid (fun (W : World) (v u : Value) (hv : FNorm W v r1) (hu : FNorm W u r1) => Is_same v u g1 r1 W hv hu (by rw [hr1, hg1]; exact resT_ok (grdn_fr (fr x) _ _) (fun h => (ucode_big h).2.2)) (by rw [hr1, hg1]; exact resT_no))
  have HN1 := hid (fun (W : World) (v : Value) (h : NRep W v x) (ht : TabOk W) => (nRootDown_any v _ _ _ q p W h ht).mono (R' := fun e w' => Below W.heap.size W w' ∧ URF w' e g1 r1) fun _ _ hR => ⟨hR.1, by rw [hg1, hr1]; exact hR.2.uniF⟩)
  have HR1 := hid (fun (W : World) (v : Value) (h : NRep W v x) => rGRootF_u v x q p W h)
  rw [← hr1, ← hg1] at HR1
  have HI2 := hid (fun (W : World) (v u : Value) (hv : FNorm W v r2) (hu : FNorm W u r2) => Is_same v u g2 r2 W hv hu (by rw [hr2, hg2]; exact resT_ok (grup_fr (fr x) _ _) (fun h => (ucode_big h).2.2)) (by rw [hr2, hg2]; exact resT_no))
  have HN2 := hid (fun (W : World) (v : Value) (h : NRep W v x) (ht : TabOk W) => (nRootUp_any v _ _ _ q p W h ht).mono (R' := fun e w' => Below W.heap.size W w' ∧ URF w' e g2 r2) fun _ _ hR => ⟨hR.1, by rw [hg2, hr2]; exact hR.2.uniF⟩)
  have HR2 := hid (fun (W : World) (v : Value) (h : NRep W v x) => rGRootT_u v x q p W h)
  rw [← hr2, ← hg2] at HR2
  clear hg1 hr1 hg2 hr2
  go_enter Tryz.func3, Tryz.ntmps3
  go_upto_region 1 with fail
  generalize w.alloc (.cells #[.bool sx, .slice pa ka ca, .slice pb kb cb] 24) = W0 at *
  obtain ⟨a0, a1, a2, _⟩ := HVx.out.cells
  go_wp2_with fail
  refine (HN1.out _ _ HX0.out HT0.out).mono ?_
  rintro e w1 ⟨hB1, sn1, pn1, kn1, cn1, qn1, ln1, dn1, rfl, hF⟩
  clear a0 a1 a2
  go_upto_region 2 with fail
  have hal := (Below.refl w1.heap.size w1).alloc (Nat.le_refl _) (.cells #[.bool sn1, .slice pn1 kn1 cn1, .slice qn1 ln1 dn1] 24)
  have hV := Var3.alloc w1 (x := .bool sn1) (y := .slice pn1 kn1 cn1) (z := .slice qn1 ln1 dn1) 24 trivial trivial trivial
  have hst := held_any hB1 hal
  have HF1 := hid (hF.out.below hal)
  clear hB1 hal hF
  generalize w1.alloc (.cells #[.bool sn1, .slice pn1 kn1 cn1, .slice qn1 ln1 dn1] 24) = V1 at *
  generalize w1.heap.size = B1 at *
  replace HVx := hid (HVx.out.below hst)
  replace HX0 := hid (HX0.out.below hst)
  replace HT0 := hid (HT0.out.below hst)
  replace HB := hid (HB.out.trans (hst.mono HB.out.size))
  have HV1 := hid hV
  clear hst hV
  obtain ⟨a0, a1, a2, _⟩ := HVx.out.cells
  go_wp2_with fail
  refine (HN2.out _ _ HX0.out HT0.out).mono ?_
  rintro e w2 ⟨hB1, sn2, pn2, kn2, cn2, qn2, ln2, dn2, rfl, hF⟩
  clear a0 a1 a2
  go_upto_region 3 with fail
  have hal := (Below.refl w2.heap.size w2).alloc (Nat.le_refl _) (.cells #[.bool sn2, .slice pn2 kn2 cn2, .slice qn2 ln2 dn2] 24)
  have hV := Var3.alloc w2 (x := .bool sn2) (y := .slice pn2 kn2 cn2) (z := .slice qn2 ln2 dn2) 24 trivial trivial trivial
  have hst := held_any hB1 hal
  have HF2 := hid (hF.out.below hal)
  clear hB1 hal hF
  generalize w2.alloc (.cells #[.bool sn2, .slice pn2 kn2 cn2, .slice qn2 ln2 dn2] 24) = V2 at *
  generalize w2.heap.size = B2 at *
  replace HVx := hid (HVx.out.below hst)
  replace HX0 := hid (HX0.out.below hst)
  replace HT0 := hid (HT0.out.below hst)
  replace HV1 := hid (HV1.out.below hst)
  replace HF1 := hid (HF1.out.below hst)
  replace HB := hid (HB.out.trans (hst.mono HB.out.size))
  have HV2 := hid hV
  clear hst hV
  obtain ⟨a0, a1, a2, _⟩ := HVx.out.cells
  go_wp2_with fail
  refine (HR1.out _ _ HX0.out).mono ?_
  rintro e w3 ⟨hB1, sn3, pn3, kn3, cn3, qn3, ln3, dn3, rfl, hF⟩
  clear a0 a1 a2
  go_upto_region 4 with fail
  have hal := (Below.refl w3.heap.size w3).alloc (Nat.le_refl _) (.cells #[.bool sn3, .slice pn3 kn3 cn3, .slice qn3 ln3 dn3] 24)
  have hV := Var3.alloc w3 (x := .bool sn3) (y := .slice pn3 kn3 cn3) (z := .slice qn3 ln3 dn3) 24 trivial trivial trivial
  have hst := held_any hB1 hal
  have HF3 := hid (hF.out.below hal)
  clear hB1 hal hF
  generalize w3.alloc (.cells #[.bool sn3, .slice pn3 kn3 cn3, .slice qn3 ln3 dn3] 24) = V3 at *
  generalize w3.heap.size = B3 at *
  replace HVx := hid (HVx.out.below hst)
  replace HX0 := hid (HX0.out.below hst)
  replace HT0 := hid (HT0.out.below hst)
  replace HV1 := hid (HV1.out.below hst)
  replace HF1 := hid (HF1.out.below hst)
  replace HV2 := hid (HV2.out.below hst)
  replace HF2 := hid (HF2.out.below hst)
  replace HB := hid (HB.out.trans (hst.mono HB.out.size))
  have HV3 := hid hV
  clear hst hV
  obtain ⟨a0, a1, a2, _⟩ := HVx.out.cells
  go_wp2_with fail
  refine (HR2.out _ _ HX0.out).mono ?_
  rintro e w4 ⟨hB1, sn4, pn4, kn4, cn4, qn4, ln4, dn4, rfl, hF⟩
  clear a0 a1 a2
  go_upto_region 5 with fail
  have hal := (Below.refl w4.heap.size w4).alloc (Nat.le_refl _) (.cells #[.bool sn4, .slice pn4 kn4 cn4, .slice qn4 ln4 dn4] 24)
  have hV := Var3.alloc w4 (x := .bool sn4) (y := .slice pn4 kn4 cn4) (z := .slice qn4 ln4 dn4) 24 trivial trivial trivial
  have hst := held_any hB1 hal
  have HF4 := hid (hF.out.below hal)
  clear hB1 hal hF
  generalize w4.alloc (.cells #[.bool sn4, .slice pn4 kn4 cn4, .slice qn4 ln4 dn4] 24) = V4 at *
  generalize w4.heap.size = B4 at *
  replace HVx := hid (HVx.out.below hst)
  replace HX0 := hid (HX0.out.below hst)
  replace HT0 := hid (HT0.out.below hst)
  replace HV1 := hid (HV1.out.below hst)
  replace HF1 := hid (HF1.out.below hst)
  replace HV2 := hid (HV2.out.below hst)
  replace HF2 := hid (HF2.out.below hst)
  replace HV3 := hid (HV3.out.below hst)
  replace HF3 := hid (HF3.out.below hst)
  replace HB := hid (HB.out.trans (hst.mono HB.out.size))
  have HV4 := hid hV
  clear hst hV
  obtain ⟨a0, a1, a2, _⟩ := HV1.out.cells
  obtain ⟨b0, b1, b2, _⟩ := HV3.out.cells
  go_wp2_with fail
  refine (HI1.out _ _ _ HF1.out HF3.out).mono ?_
  rintro e w5 ⟨rfl, hst⟩
  clear a0 a1 a2 b0 b1 b2
  replace HT0 := hid (HT0.out.below hst)
  replace HV1 := hid (HV1.out.below hst)
  replace HF1 := hid (HF1.out.below hst)
  replace HV2 := hid (HV2.out.below hst)
  replace HF2 := hid (HF2.out.below hst)
  replace HV3 := hid (HV3.out.below hst)
  replace HF3 := hid (HF3.out.below hst)
  replace HV4 := hid (HV4.out.below hst)
  replace HF4 := hid (HF4.out.below hst)
  replace HB := hid (HB.out.trans (hst.mono HB.out.size))
  clear hst
  obtain ⟨a0, a1, a2, _⟩ := HV2.out.cells
  obtain ⟨b0, b1, b2, _⟩ := HV4.out.cells
  go_wp2_with fail
  refine (HI2.out _ _ _ HF2.out HF4.out).mono ?_
  rintro e w6 ⟨rfl, hst⟩
  clear a0 a1 a2 b0 b1 b2
  replace HT0 := hid (HT0.out.below hst)
  replace HV1 := hid (HV1.out.below hst)
  replace HF1 := hid (HF1.out.below hst)
  replace HV2 := hid (HV2.out.below hst)
  replace HF2 := hid (HF2.out.below hst)
  replace HV3 := hid (HV3.out.below hst)
  replace HF3 := hid (HF3.out.below hst)
  replace HV4 := hid (HV4.out.below hst)
  replace HF4 := hid (HF4.out.below hst)
  replace HB := hid (HB.out.trans (hst.mono HB.out.size))
  clear hst
  have HAw := hid (awake_any w6 HT0.out)
  go_wp2_with fail
  refine HAw.out.mono ?_
  rintro e w7 ⟨rfl, hst⟩
  have HZ := hid (HB.out.trans (hst.mono HB.out.size))
  clear hst
  go_wp2_with fail
  go_ret
  exact ⟨rfl, HZ.out⟩
end Go.Proofs.YtjnfnngobkjneaaGreatDoor
