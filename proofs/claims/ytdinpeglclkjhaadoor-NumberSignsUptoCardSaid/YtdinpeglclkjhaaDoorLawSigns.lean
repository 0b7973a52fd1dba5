/- The law NumberSigns. -/
import Derived.Test.YtdinpeglclkjhaaDoorLawD
namespace Go.Proofs.YtdinpeglclkjhaaDoor
open Go.RowKit Dg

theorem held9 {N : Nat} {W0 W : World} {a b c d e f g h i : Prop} (H : a ∧ b ∧ c ∧ d ∧ e ∧ f ∧ g ∧ h ∧ i ∧ Hid (Below N W0 W)) : Below N W0 W := H.2.2.2.2.2.2.2.2.2.out

set_option maxHeartbeats 16000000 in
set_option maxRecDepth 100000 in
theorem NumberSigns_any (vx : Value) (x : Bool × Nat × Nat) (w : World) (hx : NRep w vx x) (ht : TabOk w) :
    Calls Tryd.prog 5 #[vx] w fun e w' => e = .returned (.bool true) ∧ Below w.heap.size w w' := by
  have HX := hid hx
  obtain ⟨_, _, rfl, ⟨pa, ka, ca, rfl, _⟩, ⟨pb, kb, cb, rfl, _⟩⟩ := hx
  obtain ⟨sx, hsx⟩ : ∃ s, s = x.1 := ⟨_, rfl⟩
  have hal := (Below.refl w.heap.size w).alloc (Nat.le_refl _) (.cells #[.bool sx, .slice pa ka ca, .slice pb kb cb] 24)
  have hV := Var3.alloc w (x := .bool sx) (y := .slice pa ka ca) (z := .slice pb kb cb) 24 trivial trivial trivial
  rw [← hsx] at HX ⊢
  clear hsx
  have HX0 := hid (HX.out.below hal)
  have HT0 := hid (ht.below hal)
  have HB := hid hal
  have HVx := hid hV
  clear HX ht hal hV
  go_enter Tryd.func5, Tryd.ntmps5
  go_upto_region 1 with fail
  generalize w.alloc (.cells #[.bool sx, .slice pa ka ca, .slice pb kb cb] 24) = W0 at *
  obtain ⟨c, hc⟩ : ∃ c : Int, c = if large x.2.1 x.2.2 then 1 else 0 := ⟨_, rfl⟩
  have HCc := hid hc
  obtain ⟨s, hs⟩ : ∃ s, s = sgt x := ⟨_, rfl⟩
  have hC := hid (nSign_any _ _ W0 HX0.out HT0.out)
  rw [← hs, show sgc x = c from hc.symm] at hC
  have HS1 := hid hs
  clear hs hc
  obtain ⟨a0, a1, a2, _⟩ := HVx.out.cells
  go_wp2_with fail
  refine hC.out.mono ?_
  rintro e w1 ⟨rfl, hst⟩
  clear hC a0 a1 a2
  replace HVx := hid (HVx.out.below hst)
  replace HX0 := hid (HX0.out.below hst)
  replace HT0 := hid (HT0.out.below hst)
  replace HB := hid (HB.out.trans (hst.mono HB.out.size))
  clear hst
  go_upto_region 2 with fail
  have hC := hid (nNeg_any _ _ _ _ w1 HX0.out HT0.out)
  obtain ⟨a0, a1, a2, _⟩ := HVx.out.cells
  go_wp2_with fail
  refine hC.out.mono ?_
  rintro e w2 ⟨hB1, hR⟩
  have hR := hR.uniF
  rw [show ucode x.2.1 x.2.2 0 (fneg (frac x.1 x.2.1 (den1 x.2.2))) = c from (show ucode x.2.1 x.2.2 0 (frac x.1 x.2.1 (den1 x.2.2)) = c by rw [ucode_fr]; exact HCc.out.symm)] at hR
  obtain ⟨sn, pn, kn, cn, qn, ln, dn, rfl, hF⟩ := hR
  clear hC a0 a1 a2
  go_upto_region 3 with fail
  have hal := (Below.refl w2.heap.size w2).alloc (Nat.le_refl _) (.cells #[.bool sn, .slice pn kn cn, .slice qn ln dn] 24)
  have hV := Var3.alloc w2 (x := .bool sn) (y := .slice pn kn cn) (z := .slice qn ln dn) 24 trivial trivial trivial
  have hst := held_any hB1 hal
  have hF2 := hid (hF.out.below hal)
  clear hB1 hal hF
  generalize w2.alloc (.cells #[.bool sn, .slice pn kn cn, .slice qn ln dn] 24) = W2 at *
  generalize w2.heap.size = Bn at *
  replace HVx := hid (HVx.out.below hst)
  replace HX0 := hid (HX0.out.below hst)
  replace HT0 := hid (HT0.out.below hst)
  replace HB := hid (HB.out.trans (hst.mono HB.out.size))
  clear hst
  have HVn := hid hV
  have HFn := hF2
  clear hV hF2
  have hC := hid (nAbs_any _ _ _ _ W2 HX0.out HT0.out)
  obtain ⟨a0, a1, a2, _⟩ := HVx.out.cells
  go_wp2_with fail
  refine hC.out.mono ?_
  rintro e w3 ⟨hB1, hR⟩
  have hR := hR.uniF
  rw [show ucode x.2.1 x.2.2 0 (fabs (frac x.1 x.2.1 (den1 x.2.2))) = c from (show ucode x.2.1 x.2.2 0 (frac x.1 x.2.1 (den1 x.2.2)) = c by rw [ucode_fr]; exact HCc.out.symm)] at hR
  obtain ⟨sm, pm, km, cm, qm, lm, dm, rfl, hF⟩ := hR
  clear hC a0 a1 a2
  go_upto_region 4 with fail
  have hal := (Below.refl w3.heap.size w3).alloc (Nat.le_refl _) (.cells #[.bool sm, .slice pm km cm, .slice qm lm dm] 24)
  have hV := Var3.alloc w3 (x := .bool sm) (y := .slice pm km cm) (z := .slice qm lm dm) 24 trivial trivial trivial
  have hst := held_any hB1 hal
  have hF2 := hid (hF.out.below hal)
  clear hB1 hal hF
  generalize w3.alloc (.cells #[.bool sm, .slice pm km cm, .slice qm lm dm] 24) = W3 at *
  generalize w3.heap.size = Bm at *
  replace HVx := hid (HVx.out.below hst)
  replace HVn := hid (HVn.out.below hst)
  replace HX0 := hid (HX0.out.below hst)
  replace HT0 := hid (HT0.out.below hst)
  replace HB := hid (HB.out.trans (hst.mono HB.out.size))
  replace HFn := hid (HFn.out.below hst)
  clear hst
  have HVm := hid hV
  have HFm := hF2
  clear hV hF2
  obtain ⟨a0, a1, a2, _⟩ := HVx.out.cells
  have hLg := hid (Large_any _ x W3 HX0.out)
  go_wp2_with fail
  refine hLg.out.mono ?_
  rintro e w4 ⟨rfl, hst⟩
  clear a0 a1 a2 hLg
  replace HVx := hid (HVx.out.below hst)
  replace HVn := hid (HVn.out.below hst)
  replace HVm := hid (HVm.out.below hst)
  replace HX0 := hid (HX0.out.below hst)
  replace HT0 := hid (HT0.out.below hst)
  replace HB := hid (HB.out.trans (hst.mono HB.out.size))
  replace HFn := hid (HFn.out.below hst)
  replace HFm := hid (HFm.out.below hst)
  clear hst
  cases hL : large x.2.1 x.2.2
  · have hc := HCc.out
    rw [hL, if_neg (by decide)] at hc
    subst hc
    have hs := HS1.out
    have hs2 : sgt x = sgn (fr x).1 (fr x).2.1 := by unfold sgt; rw [hL]; rfl
    rw [hs2] at hs
    have HS2 := hid hs
    have hpos : 0 < (fr x).2.2 := frac_pos (den1_pos _)
    have hzz : (fr x).2.1 = 0 → (fr x).1 = false := frac_zero_sign (den1_pos _)
    have HFn2 : Hid (FNorm w4 (.agg #[.bool sn, .slice pn kn cn, .slice qn ln dn]) (outF (fneg (fr x)))) := HFn
    have HFm2 : Hid (FNorm w4 (.agg #[.bool sm, .slice pm km cm, .slice qm lm dm]) (outF (fabs (fr x)))) := HFm
    have HO := hid (rOfF_any _ x w4 HX0.out hL)
    have HSg := hid (fun (W : World) (v : Value) (hq : QNorm W v (fr x)) => Sgn_any v (fr x) W hq hzz)
    have HOp := hid (fun (W : World) (v : Value) (hq : QNorm W v (fr x)) => qopen (t := fneg (fr x)) (Opp_any v (fr x) W hq))
    have HMg := hid (fun (W : World) (v : Value) (hq : QNorm W v (fr x)) => qopen (t := fabs (fr x)) (Mag_any v (fr x) W hq))
    have hb := fr_bd hL
    have HR1 := hid (fun (W : World) (v : Value) (hq : QNorm W v (fneg (fr x))) => rRatF_any v (fneg (fr x)) W hq (b16_64 hb.1) (b16_64 hb.2) hpos (fun h => by show (!(fr x).1 && decide ((fr x).2.1 ≠ 0)) = false; have h2 : (fr x).2.1 = 0 := h; simp [h2]))
    have HR2 := hid (fun (W : World) (v : Value) (hq : QNorm W v (fabs (fr x))) => rRatF_any v (fabs (fr x)) W hq (b16_64 hb.1) (b16_64 hb.2) hpos (fun _ => rfl))
    have hcn : Canon (outF (fneg (fr x))).1 (outF (fneg (fr x))).2.1 (outF (fneg (fr x))).2.2 := by show Canon (outF (fneg (frac _ _ _))).1 (outF (fneg (frac _ _ _))).2.1 (outF (fneg (frac _ _ _))).2.2; rw [fneg_frac (den1_pos _)]; exact canon_out (den1_pos _)
    have hcm : Canon (outF (fabs (fr x))).1 (outF (fabs (fr x))).2.1 (outF (fabs (fr x))).2.2 := by show Canon (outF (fabs (frac _ _ _))).1 (outF (fabs (frac _ _ _))).2.1 (outF (fabs (frac _ _ _))).2.2; rw [fabs_frac]; exact canon_out (den1_pos _)
    have hfn : Few (outF (fneg (fr x))) := few_out (t := fneg (fr x)) hb.1 hb.2
    have hfm : Few (outF (fabs (fr x))) := few_out (t := fabs (fr x)) hb.1 hb.2
    have HI1 := hid (fun (W : World) (v : Value) (hW : Below w4.heap.size w4 W) (hv : FNorm W v (outF (fneg (fr x)))) => Is_ok _ v (outF (fneg (fr x))) W (HFn2.out.below hW) hv hcn hfn)
    have HI2 := hid (fun (W : World) (v : Value) (hW : Below w4.heap.size w4 W) (hv : FNorm W v (outF (fabs (fr x)))) => Is_ok _ v (outF (fabs (fr x))) W (HFm2.out.below hW) hv hcm hfm)
    have HAw := hid (fun (W : World) (hW : Below w4.heap.size w4 W) => awake_any W (HT0.out.below hW))
    obtain ⟨g, hg⟩ : ∃ g, g = sgn (fr x).1 (fr x).2.1 := ⟨_, rfl⟩
    rw [← hg] at HSg hs
    subst hs
    clear hL HCc HS1 HS2 hs2 hpos hzz hb hcn hcm hfn hfm HFn HFm HFn2 HFm2 hg
    obtain ⟨a0, a1, a2, _⟩ := HVx.out.cells
    go_wp2_with fail
    refine HO.out.mono ?_
    rintro e w5 ⟨sv, pv, kv, cv, qv, lv, dv, rfl, hQ, hB5⟩
    clear HO a0 a1 a2
    go_upto_region 7 with fail
    have hal := (Below.refl w5.heap.size w5).alloc (Nat.le_refl _) (.cells #[.bool sv, .slice pv kv cv, .slice qv lv dv] 34)
    have hV := Var3.alloc w5 (x := .bool sv) (y := .slice pv kv cv) (z := .slice qv lv dv) 34 trivial trivial trivial
    have hst := held_any hB5 hal
    have HQ := hid (hQ.out.below hal)
    have HST := hid hst
    generalize w5.alloc (.cells #[.bool sv, .slice pv kv cv, .slice qv lv dv] 34) = W5 at *
    generalize w5.heap.size = Bv at *
    have HVn5 := HVn.out.below hst
    have HVm5 := HVm.out.below hst
    have HB5 := hid (HB.out.trans (hst.mono HB.out.size))
    have HS : Hid (∀ w', Below W5.heap.size W5 w' → (w'.cell? ⟨Bn, 0, none⟩ = some (.bool sn) ∧ w'.cell? ⟨Bn, 1, none⟩ = some (.slice pn kn cn) ∧ w'.cell? ⟨Bn, 2, none⟩ = some (.slice qn ln dn) ∧ w'.cell? ⟨Bm, 0, none⟩ = some (.bool sm) ∧ w'.cell? ⟨Bm, 1, none⟩ = some (.slice pm km cm) ∧ w'.cell? ⟨Bm, 2, none⟩ = some (.slice qm lm dm) ∧ w'.cell? ⟨Bv, 0, none⟩ = some (.bool sv) ∧ w'.cell? ⟨Bv, 1, none⟩ = some (.slice pv kv cv) ∧ w'.cell? ⟨Bv, 2, none⟩ = some (.slice qv lv dv) ∧ Hid (Below W5.heap.size W5 w'))) := hid fun w' hb => ⟨(HVn5.below hb).cells.1, (HVn5.below hb).cells.2.1, (HVn5.below hb).cells.2.2.1, (HVm5.below hb).cells.1, (HVm5.below hb).cells.2.1, (HVm5.below hb).cells.2.2.1, (hV.below hb).cells.1, (hV.below hb).cells.2.1, (hV.below hb).cells.2.2.1, hid hb⟩
    clear hB5 hal hV hst hQ HVn HVm HVx HVn5 HVm5 HX0 HT0 HB
    go_region_held3 (fun w' => w'.cell? ⟨Bn, 0, none⟩ = some (.bool sn) ∧ w'.cell? ⟨Bn, 1, none⟩ = some (.slice pn kn cn) ∧ w'.cell? ⟨Bn, 2, none⟩ = some (.slice qn ln dn) ∧ w'.cell? ⟨Bm, 0, none⟩ = some (.bool sm) ∧ w'.cell? ⟨Bm, 1, none⟩ = some (.slice pm km cm) ∧ w'.cell? ⟨Bm, 2, none⟩ = some (.slice qm lm dm) ∧ w'.cell? ⟨Bv, 0, none⟩ = some (.bool sv) ∧ w'.cell? ⟨Bv, 1, none⟩ = some (.slice pv kv cv) ∧ w'.cell? ⟨Bv, 2, none⟩ = some (.slice qv lv dv) ∧ Hid (Below W5.heap.size W5 w'))
      (first | exact HS.out _ (Below.refl _ _).drew | (exact HS.out _ (by assumption)))
      (first
        | (go_at_call 30; refine (HSg.out _ _ (HQ.out.below (held9 (N := W5.heap.size) (W0 := W5) (by assumption)))).mono ?_; rintro e wa ⟨rfl, hBa⟩; have hKa := held_any (held9 (N := W5.heap.size) (W0 := W5) (by assumption)) hBa)
        | (go_at_call 31; refine (HOp.out _ _ (HQ.out.below (held9 (N := W5.heap.size) (W0 := W5) (by assumption)))).mono ?_; rintro e wb ⟨so, po, ko, co, ro, lo, do1, rfl, hQo, hBb⟩; have hKb := held_any (held9 (N := W5.heap.size) (W0 := W5) (by assumption)) hBb)
        | (go_at_call 32; refine (HMg.out _ _ (HQ.out.below (held9 (N := W5.heap.size) (W0 := W5) (by assumption)))).mono ?_; rintro e wc ⟨sg, pg, kg, cg, rg, lg, dg1, rfl, hQg, hBc⟩; have hKc := held_any (held9 (N := W5.heap.size) (W0 := W5) (by assumption)) hBc)
        | (go_at_call_of 20 po; refine (HR1.out _ _ hQo.out).mono ?_; rintro e wd ⟨su, pu, ku, cu, ru, lu, du, rfl, hFu, hBd⟩; have hKd := held_any (held9 (N := W5.heap.size) (W0 := W5) (by assumption)) hBd)
        | (go_at_call_of 20 pg; refine (HR2.out _ _ hQg.out).mono ?_; rintro e we ⟨st, pt, kt, ct, rt, lt1, dt, rfl, hFt, hBe⟩; have hKe := held_any (held9 (N := W5.heap.size) (W0 := W5) (by assumption)) hBe)
        | (go_at_call_of 19 pn; refine (HI1.out _ _ (HST.out.trans ((held9 (N := W5.heap.size) (W0 := W5) (by assumption)).mono HST.out.size)) hFu.out).mono ?_; rintro e wf ⟨rfl, hBf⟩; have hKf := held_any (held9 (N := W5.heap.size) (W0 := W5) (by assumption)) hBf)
        | (go_at_call_of 19 pm; refine (HI2.out _ _ (HST.out.trans ((held9 (N := W5.heap.size) (W0 := W5) (by assumption)).mono HST.out.size)) hFt.out).mono ?_; rintro e wg ⟨rfl, hBg⟩; have hKg := held_any (held9 (N := W5.heap.size) (W0 := W5) (by assumption)) hBg)
        | (go_at_call 18; refine (HAw.out _ (HST.out.trans ((held9 (N := W5.heap.size) (W0 := W5) (by assumption)).mono HST.out.size))).mono ?_; rintro e wz ⟨rfl, hBz⟩; have hKz := held_any (held9 (N := W5.heap.size) (W0 := W5) (by assumption)) hBz))
    all_goals
      rename_i hHeld
      have HZ := hid (HB5.out.trans ((held9 (N := W5.heap.size) (W0 := W5) hHeld).mono HB5.out.size))
      clear hHeld
      go_wp2_with fail
      go_ret
      exact ⟨rfl, HZ.out⟩
  · have hc := HCc.out
    rw [hL, if_pos rfl] at hc
    subst hc
    have hs : s = 0 := by rw [HS1.out]; unfold sgt; rw [hL]; rfl
    subst hs
    have HFn2 : Hid (FNorm w4 (.agg #[.bool sn, .slice pn kn cn, .slice qn ln dn]) (false, 0, 0)) := HFn
    have HFm2 : Hid (FNorm w4 (.agg #[.bool sm, .slice pm km cm, .slice qm lm dm]) (false, 0, 0)) := HFm
    have HN1 := hid (fun (W : World) (hW : Below w4.heap.size w4 W) => None_any _ W (HFn2.out.below hW))
    have HN2 := hid (fun (W : World) (hW : Below w4.heap.size w4 W) => None_any _ W (HFm2.out.below hW))
    have HAw := hid (fun (W : World) (hW : Below w4.heap.size w4 W) => awake_any W (HT0.out.below hW))
    clear hL HCc HS1
    obtain ⟨a0, a1, a2, _⟩ := HVn.out.cells
    obtain ⟨b0, b1, b2, _⟩ := HVm.out.cells
    go_wp2_with fail
    refine (HN1.out _ (Below.refl _ _)).mono ?_
    rintro e w5 ⟨rfl, hB5⟩
    clear a0 a1 a2 b0 b1 b2
    obtain ⟨b0, b1, b2, _⟩ := (HVm.out.below hB5).cells
    go_wp2_with fail
    refine (HN2.out _ hB5).mono ?_
    rintro e w6 ⟨rfl, hB6⟩
    clear b0 b1 b2
    have hB56 := held_any hB5 hB6
    go_wp2_with fail
    refine (HAw.out _ hB56).mono ?_
    rintro e w7 ⟨rfl, hB7⟩
    have HZ := hid (HB.out.trans ((held_any hB56 hB7).mono HB.out.size))
    clear hB5 hB6 hB56 hB7 HN1 HN2 HAw
    go_wp2_with fail
    go_ret
    exact ⟨rfl, HZ.out⟩
end Go.Proofs.YtdinpeglclkjhaaDoor
