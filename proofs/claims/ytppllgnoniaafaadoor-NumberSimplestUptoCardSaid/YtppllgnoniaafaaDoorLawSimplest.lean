/- The law NumberSimplest. -/
import Derived.Test.YtppllgnoniaafaaDoorSplF
namespace Go.Proofs.YtppllgnoniaafaaDoor
open Go.RowKit Dg

set_option maxHeartbeats 16000000 in
set_option maxRecDepth 100000 in
theorem NumberSimplest_any (vx vy : Value) (x y : Bool × Nat × Nat) (w : World) (hx : NRep w vx x) (hy : NRep w vy y) (ht : TabOk w) :
    Calls Tryd.prog 7 #[vx, vy] w fun e w' => e = .returned (.bool true) ∧ Below w.heap.size w w' := by
  have HX := hid hx
  have HY := hid hy
  obtain ⟨_, _, rfl, ⟨pa, ka, ca, rfl, _⟩, ⟨pb, kb, cb, rfl, _⟩⟩ := hx
  obtain ⟨_, _, rfl, ⟨pc, kc, cc, rfl, _⟩, ⟨pd, kd, cd, rfl, _⟩⟩ := hy
  obtain ⟨sx, hsx⟩ : ∃ s, s = x.1 := ⟨_, rfl⟩
  obtain ⟨sy, hsy⟩ : ∃ s, s = y.1 := ⟨_, rfl⟩
  have hal := below_alloc2 w (.cells #[.bool sx, .slice pa ka ca, .slice pb kb cb] 24) (.cells #[.bool sy, .slice pc kc cc, .slice pd kd cd] 24)
  have hV := (Var3.alloc w (x := .bool sx) (y := .slice pa ka ca) (z := .slice pb kb cb) 24 trivial trivial trivial).below ((Below.refl _ _).alloc (Nat.le_refl _) (.cells #[.bool sy, .slice pc kc cc, .slice pd kd cd] 24))
  have hV2 := Var3.alloc2 w (.cells #[.bool sx, .slice pa ka ca, .slice pb kb cb] 24) (x := .bool sy) (y := .slice pc kc cc) (z := .slice pd kd cd) 24 trivial trivial trivial
  rw [← hsx] at HX ⊢
  rw [← hsy] at HY ⊢
  clear hsx hsy
  have HX0 := hid (HX.out.below hal)
  have HY0 := hid (HY.out.below hal)
  have HT0 := hid (ht.below hal)
  have HB := hid hal
  have HVx := hid hV
  have HVy := hid hV2
  clear HX HY ht hal hV hV2
  obtain ⟨g1, hg1⟩ : ∃ g, g = slc x y := ⟨_, rfl⟩
  obtain ⟨r1, hr1⟩ : ∃ g, g = resT (slc x y) (fpl (fr x) (fr y)) := ⟨_, rfl⟩
  have HI1 := hid (fun (W : World) (v u : Value) (hv : FNorm W v r1) (hu : FNorm W u r1) => Is_same v u g1 r1 W hv hu (by rw [hr1, hg1]; exact resT_ok2 (fun h => slc_fr h)) (by rw [hr1, hg1]; exact resT_no))
  have HN1 := hid (fun (W : World) (v u : Value) (h : NRep W v x) (hy : NRep W u y) (ht : TabOk W) => (nSimplest_any v _ _ _ u _ _ _ W h hy ht).mono (R' := fun e w' => Below W.heap.size W w' ∧ URF w' e g1 r1) fun _ _ hR => ⟨hR.1, by rw [hg1, hr1]; exact hR.2.uniF⟩)
  have HR1 := hid (fun (W : World) (v u : Value) (h : NRep W v x) (hy : NRep W u y) => rSimplest_u v u x y W h hy)
  rw [← hr1, ← hg1] at HR1
  clear hg1 hr1
  go_enter Tryd.func7, Tryd.ntmps7
  go_upto_region 1 with fail
  generalize (w.alloc (.cells #[.bool sx, .slice pa ka ca, .slice pb kb cb] 24)).alloc (.cells #[.bool sy, .slice pc kc cc, .slice pd kd cd] 24) = W0 at *
  obtain ⟨a0, a1, a2, _⟩ := HVx.out.cells
  obtain ⟨b0, b1, b2, _⟩ := HVy.out.cells
  go_wp2_with fail
  refine (HN1.out _ _ _ HX0.out HY0.out HT0.out).mono ?_
  rintro e w1 ⟨hB1, sn1, pn1, kn1, cn1, qn1, ln1, dn1, rfl, hF⟩
  clear a0 a1 a2 b0 b1 b2
  go_upto_region 2 with fail
  have hal := (Below.refl w1.heap.size w1).alloc (Nat.le_refl _) (.cells #[.bool sn1, .slice pn1 kn1 cn1, .slice qn1 ln1 dn1] 24)
  have hV := Var3.alloc w1 (x := .bool sn1) (y := .slice pn1 kn1 cn1) (z := .slice qn1 ln1 dn1) 24 trivial trivial trivial
  have hst := held_any hB1 hal
  have HF1 := hid (hF.out.below hal)
  clear hB1 hal hF
  generalize w1.alloc (.cells #[.bool sn1, .slice pn1 kn1 cn1, .slice qn1 ln1 dn1] 24) = V1 at *
  generalize w1.heap.size = B1 at *
  replace HVx := hid (HVx.out.below hst)
  replace HVy := hid (HVy.out.below hst)
  replace HX0 := hid (HX0.out.below hst)
  replace HY0 := hid (HY0.out.below hst)
  replace HT0 := hid (HT0.out.below hst)
  replace HB := hid (HB.out.trans (hst.mono HB.out.size))
  have HV1 := hid hV
  clear hst hV
  obtain ⟨a0, a1, a2, _⟩ := HVx.out.cells
  obtain ⟨b0, b1, b2, _⟩ := HVy.out.cells
  go_wp2_with fail
  refine (HR1.out _ _ _ HX0.out HY0.out).mono ?_
  rintro e w2 ⟨hB1, sn2, pn2, kn2, cn2, qn2, ln2, dn2, rfl, hF⟩
  clear a0 a1 a2 b0 b1 b2
  go_upto_region 3 with fail
  have hal := (Below.refl w2.heap.size w2).alloc (Nat.le_refl _) (.cells #[.bool sn2, .slice pn2 kn2 cn2, .slice qn2 ln2 dn2] 24)
  have hV := Var3.alloc w2 (x := .bool sn2) (y := .slice pn2 kn2 cn2) (z := .slice qn2 ln2 dn2) 24 trivial trivial trivial
  have hst := held_any hB1 hal
  have HF2 := hid (hF.out.below hal)
  clear hB1 hal hF
  generalize w2.alloc (.cells #[.bool sn2, .slice pn2 kn2 cn2, .slice qn2 ln2 dn2] 24) = V2 at *
  generalize w2.heap.size = B2 at *
  replace HVx := hid (HVx.out.below hst)
  replace HVy := hid (HVy.out.below hst)
  replace HX0 := hid (HX0.out.below hst)
  replace HY0 := hid (HY0.out.below hst)
  replace HT0 := hid (HT0.out.below hst)
  replace HV1 := hid (HV1.out.below hst)
  replace HF1 := hid (HF1.out.below hst)
  replace HB := hid (HB.out.trans (hst.mono HB.out.size))
  have HV2 := hid hV
  clear hst hV
  obtain ⟨a0, a1, a2, _⟩ := HV1.out.cells
  obtain ⟨b0, b1, b2, _⟩ := HV2.out.cells
  go_wp2_with fail
  refine (HI1.out _ _ _ HF1.out HF2.out).mono ?_
  rintro e w3 ⟨rfl, hst⟩
  clear a0 a1 a2 b0 b1 b2
  replace HT0 := hid (HT0.out.below hst)
  replace HV1 := hid (HV1.out.below hst)
  replace HF1 := hid (HF1.out.below hst)
  replace HV2 := hid (HV2.out.below hst)
  replace HF2 := hid (HF2.out.below hst)
  replace HB := hid (HB.out.trans (hst.mono HB.out.size))
  clear hst
  have HAw := hid (awake_any w3 HT0.out)
  go_wp2_with fail
  refine HAw.out.mono ?_
  rintro e w4 ⟨rfl, hst⟩
  have HZ := hid (HB.out.trans (hst.mono HB.out.size))
  clear hst
  go_wp2_with fail
  go_ret
  exact ⟨rfl, HZ.out⟩
end Go.Proofs.YtppllgnoniaafaaDoor
