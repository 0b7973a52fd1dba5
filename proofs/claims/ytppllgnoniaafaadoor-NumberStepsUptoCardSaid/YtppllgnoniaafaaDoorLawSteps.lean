/- The law NumberSteps. -/
import Derived.Test.YtppllgnoniaafaaDoorStepsM
namespace Go.Proofs.YtppllgnoniaafaaDoor
open Go.RowKit Dg

theorem fcmp_self (t : Bool × Nat × Nat) : fcmp t t = 0 := by unfold fcmp cmpI; simp
theorem ucode0 {n d : Nat} {t : Bool × Nat × Nat} : ucode n d 0 t = 0 ∨ ucode n d 0 t = 1 := by
  unfold ucode
  rw [if_neg (show ¬ ((0 : Int) ≠ 0) from fun h => h rfl)]
  split
  · exact .inr rfl
  · split
    · exact .inr rfl
    · exact .inl rfl

set_option maxHeartbeats 16000000 in
set_option maxRecDepth 100000 in
theorem NumberSteps_nat (vx : Value) (x : Bool × Nat × Nat) (p : Nat) (w : World) (hx : NRep w vx x) (hp : p < 256) (ht : TabOk w) :
    Calls Tryd.prog 5 #[vx, .int .u8 (p : Int)] w fun e w' => e = .returned (.bool true) ∧ Below w.heap.size w w' := by
  have HX := hid hx
  obtain ⟨_, _, rfl, ⟨pa, ka, ca, rfl, _⟩, ⟨pb, kb, cb, rfl, _⟩⟩ := hx
  obtain ⟨sx, hsx⟩ : ∃ s, s = x.1 := ⟨_, rfl⟩
  have hal := (Below.refl w.heap.size w).alloc (Nat.le_refl _) (.cells #[.bool sx, .slice pa ka ca, .slice pb kb cb] 24)
  have hV := Var3.alloc w (x := .bool sx) (y := .slice pa ka ca) (z := .slice pb kb cb) 24 trivial trivial trivial
  rw [← hsx] at HX ⊢
  clear hsx
  have HX0 := hid (HX.out.below hal)
  have HT0 := hid (ht.below hal)
  have HB := hid hal
  have HVx := hid hV
  clear HX ht hal hV
  have hpc : pcode (p : Int) = 0 := by
    unfold pcode inPrec
    rw [decide_eq_true (show (0 : Int) ≤ (p : Int) by omega), decide_eq_true (show (p : Int) ≤ 256 by omega)]
    rfl
  have HL := hid (fun (r1 r2 : Bool × Nat × Nat) => @steps_law x p (by omega) r1 r2)
  obtain ⟨g1, hg1⟩ : ∃ g, g = ucode x.2.1 x.2.2 0 (gdn (fr x) p) := ⟨_, rfl⟩
  obtain ⟨r1, hr1⟩ : ∃ g, g = resT (ucode x.2.1 x.2.2 0 (gdn (fr x) p)) (gdn (fr x) p) := ⟨_, rfl⟩
  obtain ⟨g2, hg2⟩ : ∃ g, g = ucode x.2.1 x.2.2 0 (gup (fr x) p) := ⟨_, rfl⟩
  obtain ⟨r2, hr2⟩ : ∃ g, g = resT (ucode x.2.1 x.2.2 0 (gup (fr x) p)) (gup (fr x) p) := ⟨_, rfl⟩
  have HN1 := hid (fun (W : World) (v : Value) (h : NRep W v x) (ht : TabOk W) => (nDown_any v _ _ _ (p : Int) W h ht).mono (R' := fun e w' => Below W.heap.size W w' ∧ URes w' e g1 r1) fun _ _ hR => ⟨hR.1, by rw [hg1, hr1]; have h2 := hR.2; rw [hpc, Int.toNat_natCast] at h2; exact FRes.uni h2 (fun h => (ucode_big h).2.2)⟩)
  have HN2 := hid (fun (W : World) (v : Value) (h : NRep W v x) (ht : TabOk W) => (nUp_any v _ _ _ (p : Int) W h ht).mono (R' := fun e w' => Below W.heap.size W w' ∧ URes w' e g2 r2) fun _ _ hR => ⟨hR.1, by rw [hg2, hr2]; have h2 := hR.2; rw [hpc, Int.toNat_natCast] at h2; exact FRes.uni h2 (fun h => (ucode_big h).2.2)⟩)
  have hc1 : g1 = 0 ∨ g1 = 1 := by rw [hg1]; exact ucode0
  have hc2 : g2 = 0 ∨ g2 = 1 := by rw [hg2]; exact ucode0
  have HS : Hid (g1 = 0 → g2 = 0 → _) := hid (fun (h1 : g1 = 0) (h2 : g2 = 0) => HL.out r1 r2 (hg1.symm.trans h1) (hg2.symm.trans h2) (by rw [hr1, hg1.symm.trans h1]; rfl) (by rw [hr2, hg2.symm.trans h2]; rfl))
  have HC1 := hid (fun (W : World) (v u : Value) (h : NRep W v r1) (hy : NRep W u x) (ht : TabOk W) => nCompare_any v u r1 x W h hy ht)
  have HC2 := hid (fun (W : World) (v u : Value) (h : NRep W v x) (hy : NRep W u r2) (ht : TabOk W) => nCompare_any v u x r2 W h hy ht)
  have HC3 := hid (fun (W : World) (v u : Value) (h : NRep W v r1) (hy : NRep W u r2) (ht : TabOk W) => nCompare_any v u r1 r2 W h hy ht)
  have HSb := hid (fun (W : World) (v u : Value) (h : NRep W v r2) (hy : NRep W u r1) (ht : TabOk W) => nSub_u v u r2 r1 W h hy ht)
  have hwp : IntKind.i64.wrap (p : Int) = p := by rw [IntKind.wrap_i64]; omega
  have hwn : IntKind.i64.wrap (-(p : Int)) = -(p : Int) := by rw [IntKind.wrap_i64]; omega
  clear hpc hg1 hr1 hg2 hr2 HL
  go_enter Tryd.func5, Tryd.ntmps5
  go_upto_region 1 with fail
  generalize w.alloc (.cells #[.bool sx, .slice pa ka ca, .slice pb kb cb] 24) = W0 at *
  obtain ⟨a0, a1, a2, _⟩ := HVx.out.cells
  go_wp2_with fail
  refine (HN1.out _ _ HX0.out HT0.out).mono ?_
  rintro e w1 ⟨hB1, sn1, pn1, kn1, cn1, qn1, ln1, dn1, rfl, hF⟩
  clear a0 a1 a2
  go_upto_region 2 with fail
  have hal := (Below.refl w1.heap.size w1).alloc (Nat.le_refl _) (.cells #[.bool sn1, .slice pn1 kn1 cn1, .slice qn1 ln1 dn1] 24)
  have hV := Var3.alloc w1 (x := .bool sn1) (y := .slice pn1 kn1 cn1) (z := .slice qn1 ln1 dn1) 24 trivial trivial trivial
  have hst := held_any hB1 hal
  have HF1 := hid (hF.out.below hal)
  clear hB1 hal hF
  generalize w1.alloc (.cells #[.bool sn1, .slice pn1 kn1 cn1, .slice qn1 ln1 dn1] 24) = V1 at *
  generalize w1.heap.size = B1 at *
  replace HVx := hid (HVx.out.below hst)
  replace HX0 := hid (HX0.out.below hst)
  replace HT0 := hid (HT0.out.below hst)
  replace HB := hid (HB.out.trans (hst.mono HB.out.size))
  have HV1 := hid hV
  clear hst hV
  obtain ⟨a0, a1, a2, _⟩ := HVx.out.cells
  go_wp2_with fail
  refine (HN2.out _ _ HX0.out HT0.out).mono ?_
  rintro e w2 ⟨hB1, sn2, pn2, kn2, cn2, qn2, ln2, dn2, rfl, hF⟩
  clear a0 a1 a2
  go_upto_region 3 with fail
  have hal := (Below.refl w2.heap.size w2).alloc (Nat.le_refl _) (.cells #[.bool sn2, .slice pn2 kn2 cn2, .slice qn2 ln2 dn2] 24)
  have hV := Var3.alloc w2 (x := .bool sn2) (y := .slice pn2 kn2 cn2) (z := .slice qn2 ln2 dn2) 24 trivial trivial trivial
  have hst := held_any hB1 hal
  have HF2 := hid (hF.out.below hal)
  clear hB1 hal hF
  generalize w2.alloc (.cells #[.bool sn2, .slice pn2 kn2 cn2, .slice qn2 ln2 dn2] 24) = V2 at *
  generalize w2.heap.size = B2 at *
  replace HVx := hid (HVx.out.below hst)
  replace HX0 := hid (HX0.out.below hst)
  replace HT0 := hid (HT0.out.below hst)
  replace HV1 := hid (HV1.out.below hst)
  replace HF1 := hid (HF1.out.below hst)
  replace HB := hid (HB.out.trans (hst.mono HB.out.size))
  have HV2 := hid hV
  clear hst hV
  rcases hc1 with rfl | rfl
  case inr =>
    have HAw := hid (awake_any _ HT0.out)
    go_wp2_with fail
    refine HAw.out.mono ?_
    rintro e wz ⟨rfl, hst⟩
    have HZ := hid (HB.out.trans (hst.mono HB.out.size))
    clear hst
    go_wp2_with fail
    go_ret
    exact ⟨rfl, HZ.out⟩
  rcases hc2 with rfl | rfl
  case inr =>
    have HAw := hid (awake_any _ HT0.out)
    go_wp2_with fail
    refine HAw.out.mono ?_
    rintro e wz ⟨rfl, hst⟩
    have HZ := hid (HB.out.trans (hst.mono HB.out.size))
    clear hst
    go_wp2_with fail
    go_ret
    exact ⟨rfl, HZ.out⟩
  have hS := HS.out rfl rfl
  clear HS
  obtain ⟨e1, e2, e3, hS⟩ := hS
  rw [e1] at HC1
  rw [e2] at HC2
  rw [e3] at HC3
  clear e1 e2 e3
  rcases hS with ⟨l1, l2, l3⟩ | ⟨l1, l2, l3, l4, l5, l6⟩
  case inl =>
    rw [l1] at HC1
    rw [l2] at HC2
    rw [l3] at HC3
    clear l1 l2 l3
    obtain ⟨a0, a1, a2, _⟩ := HV1.out.cells
    obtain ⟨b0, b1, b2, _⟩ := HVx.out.cells
    go_wp2_with fail
    refine (HC1.out _ _ _ HF1.out HX0.out HT0.out).mono ?_
    rintro e w3 ⟨rfl, hst⟩
    clear a0 a1 a2 b0 b1 b2
    replace HVx := hid (HVx.out.below hst)
    replace HX0 := hid (HX0.out.below hst)
    replace HT0 := hid (HT0.out.below hst)
    replace HV1 := hid (HV1.out.below hst)
    replace HF1 := hid (HF1.out.below hst)
    replace HV2 := hid (HV2.out.below hst)
    replace HF2 := hid (HF2.out.below hst)
    replace HB := hid (HB.out.trans (hst.mono HB.out.size))
    clear hst
    obtain ⟨a0, a1, a2, _⟩ := HVx.out.cells
    obtain ⟨b0, b1, b2, _⟩ := HV2.out.cells
    go_wp2_with fail
    refine (HC2.out _ _ _ HX0.out HF2.out HT0.out).mono ?_
    rintro e w4 ⟨rfl, hst⟩
    clear a0 a1 a2 b0 b1 b2
    replace HVx := hid (HVx.out.below hst)
    replace HX0 := hid (HX0.out.below hst)
    replace HT0 := hid (HT0.out.below hst)
    replace HV1 := hid (HV1.out.below hst)
    replace HF1 := hid (HF1.out.below hst)
    replace HV2 := hid (HV2.out.below hst)
    replace HF2 := hid (HF2.out.below hst)
    replace HB := hid (HB.out.trans (hst.mono HB.out.size))
    clear hst
    obtain ⟨a0, a1, a2, _⟩ := HV1.out.cells
    obtain ⟨b0, b1, b2, _⟩ := HV2.out.cells
    go_wp2_with fail
    refine (HC3.out _ _ _ HF1.out HF2.out HT0.out).mono ?_
    rintro e w5 ⟨rfl, hst⟩
    clear a0 a1 a2 b0 b1 b2
    replace HVx := hid (HVx.out.below hst)
    replace HX0 := hid (HX0.out.below hst)
    replace HT0 := hid (HT0.out.below hst)
    replace HV1 := hid (HV1.out.below hst)
    replace HF1 := hid (HF1.out.below hst)
    replace HV2 := hid (HV2.out.below hst)
    replace HF2 := hid (HF2.out.below hst)
    replace HB := hid (HB.out.trans (hst.mono HB.out.size))
    clear hst
    have HAw := hid (awake_any _ HT0.out)
    go_wp2_with fail
    refine HAw.out.mono ?_
    rintro e wz ⟨rfl, hst⟩
    have HZ := hid (HB.out.trans (hst.mono HB.out.size))
    clear hst
    go_wp2_with fail
    go_ret
    exact ⟨rfl, HZ.out⟩
  case inr =>
    rw [l1] at HC1
    rw [l2] at HC2
    rw [l3] at HC3
    clear l1 l2 l3
    obtain ⟨a0, a1, a2, _⟩ := HV1.out.cells
    obtain ⟨b0, b1, b2, _⟩ := HVx.out.cells
    go_wp2_with fail
    refine (HC1.out _ _ _ HF1.out HX0.out HT0.out).mono ?_
    rintro e w3 ⟨rfl, hst⟩
    clear a0 a1 a2 b0 b1 b2
    replace HVx := hid (HVx.out.below hst)
    replace HX0 := hid (HX0.out.below hst)
    replace HT0 := hid (HT0.out.below hst)
    replace HV1 := hid (HV1.out.below hst)
    replace HF1 := hid (HF1.out.below hst)
    replace HV2 := hid (HV2.out.below hst)
    replace HF2 := hid (HF2.out.below hst)
    replace HB := hid (HB.out.trans (hst.mono HB.out.size))
    clear hst
    obtain ⟨a0, a1, a2, _⟩ := HVx.out.cells
    obtain ⟨b0, b1, b2, _⟩ := HV2.out.cells
    go_wp2_with fail
    refine (HC2.out _ _ _ HX0.out HF2.out HT0.out).mono ?_
    rintro e w4 ⟨rfl, hst⟩
    clear a0 a1 a2 b0 b1 b2
    replace HVx := hid (HVx.out.below hst)
    replace HX0 := hid (HX0.out.below hst)
    replace HT0 := hid (HT0.out.below hst)
    replace HV1 := hid (HV1.out.below hst)
    replace HF1 := hid (HF1.out.below hst)
    replace HV2 := hid (HV2.out.below hst)
    replace HF2 := hid (HF2.out.below hst)
    replace HB := hid (HB.out.trans (hst.mono HB.out.size))
    clear hst
    obtain ⟨a0, a1, a2, _⟩ := HV1.out.cells
    obtain ⟨b0, b1, b2, _⟩ := HV2.out.cells
    go_wp2_with fail
    refine (HC3.out _ _ _ HF1.out HF2.out HT0.out).mono ?_
    rintro e w5 ⟨rfl, hst⟩
    clear a0 a1 a2 b0 b1 b2
    replace HVx := hid (HVx.out.below hst)
    replace HX0 := hid (HX0.out.below hst)
    replace HT0 := hid (HT0.out.below hst)
    replace HV1 := hid (HV1.out.below hst)
    replace HF1 := hid (HF1.out.below hst)
    replace HV2 := hid (HV2.out.below hst)
    replace HF2 := hid (HF2.out.below hst)
    replace HB := hid (HB.out.trans (hst.mono HB.out.size))
    clear hst
    obtain ⟨a0, a1, a2, _⟩ := HV1.out.cells
    obtain ⟨b0, b1, b2, _⟩ := HV2.out.cells
    rw [l4] at HSb
    obtain ⟨r3, hr3⟩ : ∃ r, r = subt r2 r1 := ⟨_, rfl⟩
    rw [← hr3] at HSb l5 l6
    clear hr3 l4
    have hbd := fr_bd l5
    have HO := hid (fun (W : World) (v : Value) (h : NRep W v r3) => rOfF_any v r3 W h l5)
    have HI := hid (fun (W : World) => qopen (t := (false, 1, 1)) (rInt_any 1 W (by decide) (by decide)))
    have HSc := hid (fun (W : World) (v : Value) (h : QNorm W v (false, 1, 1)) => qopen (t := sdn (false, 1, 1) p) (rScaledNeg_any v (false, 1, 1) p 1 W h (by decide) (by decide) (by decide) (by omega) (by decide)))
    obtain ⟨A, hA1, hA2⟩ : ∃ A : Nat, 128 ≤ A ∧ A ≤ 1000000 := ⟨128, by omega, by omega⟩
    have hcm := fcmp_self (fr r3)
    have HCm := hid (fun (W : World) (v1 v2 : Value) (q1 : QNorm W v1 (fr r3)) (q2 : QNorm W v2 (sdn (false, 1, 1) p)) => rCmp_any v1 v2 (fr r3) (fr r3) A W q1 (by rw [l6]; exact q2) (lt_W_B6 hbd.1 (by omega)) (lt_W_B6 hbd.2 (by omega)) (lt_W_B6 hbd.1 (by omega)) (lt_W_B6 hbd.2 (by omega)) hA2 (IsFr.fr r3).pos (IsFr.fr r3).pos)
    rw [hcm] at HCm
    clear hbd hA1 hA2 hcm l5 l6
    generalize sdn (false, 1, 1) p = tS at *
    generalize fr r3 = tD at *
    go_wp2_with fail
    refine (HSb.out _ _ _ HF2.out HF1.out HT0.out).mono ?_
    rintro e w6 ⟨hB1, sn6, pn6, kn6, cn6, qn6, ln6, dn6, rfl, hF⟩
    clear a0 a1 a2 b0 b1 b2
    go_upto_region 9 with fail
    have hal := (Below.refl w6.heap.size w6).alloc (Nat.le_refl _) (.cells #[.bool sn6, .slice pn6 kn6 cn6, .slice qn6 ln6 dn6] 24)
    have hV := Var3.alloc w6 (x := .bool sn6) (y := .slice pn6 kn6 cn6) (z := .slice qn6 ln6 dn6) 24 trivial trivial trivial
    have hst := held_any hB1 hal
    have HF6 := hid (hF.out.below hal)
    clear hB1 hal hF
    generalize w6.alloc (.cells #[.bool sn6, .slice pn6 kn6 cn6, .slice qn6 ln6 dn6] 24) = V6 at *
    generalize w6.heap.size = B6 at *
    replace HVx := hid (HVx.out.below hst)
    replace HX0 := hid (HX0.out.below hst)
    replace HT0 := hid (HT0.out.below hst)
    replace HV1 := hid (HV1.out.below hst)
    replace HF1 := hid (HF1.out.below hst)
    replace HV2 := hid (HV2.out.below hst)
    replace HF2 := hid (HF2.out.below hst)
    replace HB := hid (HB.out.trans (hst.mono HB.out.size))
    have HV6 := hid hV
    clear hst hV
    have HAw := hid (fun (W : World) (hW : Below V6.heap.size V6 W) => awake_any W (HT0.out.below hW))
    have HO1 := hid (fun (W : World) (hW : Below V6.heap.size V6 W) => HO.out W _ (HF6.out.below hW))
    refine (HO1.out _ (Below.refl _ _)).mono ?_
    rintro e wa ⟨s5, p5, k5, c5, p6, k6, c6, rfl, hQ1, hBa⟩
    clear HO1
    go_wp2_with fail
    refine (HI.out _).mono ?_
    rintro e wb ⟨s7, p7, k7, c7, p8, k8, c8, rfl, hQ2, hBb⟩
    go_wp2_with fail
    (try rw [hwn])
    refine (HSc.out _ _ hQ2.out).mono ?_
    rintro e wc ⟨s9, p9, k9, c9, p10, k10, c10, rfl, hQ3, hBc⟩
    have hq1 := hid ((hQ1.out.below hBb).below hBc)
    go_wp2_with fail
    refine (HCm.out _ _ _ hq1.out hQ3.out).mono ?_
    rintro e wd ⟨rfl, hBd⟩
    have hst := held_any (held_any (held_any hBa hBb) hBc) hBd
    have HAw2 := hid (HAw.out _ hst)
    replace HB := hid (HB.out.trans (hst.mono HB.out.size))
    clear hst hBa hBb hBc hBd HAw
    go_wp2_with fail
    refine HAw2.out.mono ?_
    rintro e wz ⟨rfl, hst⟩
    have HZ := hid (HB.out.trans (hst.mono HB.out.size))
    clear hst
    go_wp2_with fail
    go_ret
    exact ⟨rfl, HZ.out⟩
theorem NumberSteps_any (vx : Value) (x : Bool × Nat × Nat) (n : Int) (w : World) (hx : NRep w vx x) (h0 : 0 ≤ n) (h1 : n < 256) (ht : TabOk w) :
    Calls Tryd.prog 5 #[vx, .int .u8 n] w fun e w' => e = .returned (.bool true) ∧ Below w.heap.size w w' := by
  obtain ⟨p, rfl⟩ : ∃ p : Nat, n = p := ⟨n.toNat, by omega⟩
  exact NumberSteps_nat vx x p w hx (by omega) ht
end Go.Proofs.YtppllgnoniaafaaDoor
