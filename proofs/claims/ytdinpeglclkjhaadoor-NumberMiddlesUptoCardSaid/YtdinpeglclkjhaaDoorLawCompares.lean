/- The law NumberCompares. -/
import Derived.Test.YtdinpeglclkjhaaDoorRefV
namespace Go.Proofs.YtdinpeglclkjhaaDoor
open Go.RowKit Dg

theorem lt_W_B6 {x A : Nat} (h : x < W32 ^ 64) (hA : 128 ≤ A) : x < B16 ^ A := by
  rw [pow_two_k] at h
  exact Nat.lt_of_lt_of_le h (Nat.pow_le_pow_right B16_pos (by omega))

set_option maxHeartbeats 16000000 in
set_option maxRecDepth 100000 in
theorem NumberCompares_any (vx vy : Value) (x y : Bool × Nat × Nat) (w : World) (hx : NRep w vx x) (hy : NRep w vy y) (ht : TabOk w) :
    Calls Tryd.prog 6 #[vx, vy] w fun e w' => e = .returned (.bool true) ∧ Below w.heap.size w w' := by
  have HX := hid hx
  have HY := hid hy
  obtain ⟨_, _, rfl, ⟨pa, ka, ca, rfl, _⟩, ⟨pb, kb, cb, rfl, _⟩⟩ := hx
  obtain ⟨_, _, rfl, ⟨pc, kc, cc, rfl, _⟩, ⟨pd, kd, cd, rfl, _⟩⟩ := hy
  obtain ⟨sx, hsx⟩ : ∃ s, s = x.1 := ⟨_, rfl⟩
  obtain ⟨sy, hsy⟩ : ∃ s, s = y.1 := ⟨_, rfl⟩
  have hal := below_alloc2 w (.cells #[.bool sx, .slice pa ka ca, .slice pb kb cb] 24) (.cells #[.bool sy, .slice pc kc cc, .slice pd kd cd] 24)
  have hV := (Var3.alloc w (x := .bool sx) (y := .slice pa ka ca) (z := .slice pb kb cb) 24 trivial trivial trivial).below ((Below.refl _ _).alloc (Nat.le_refl _) (.cells #[.bool sy, .slice pc kc cc, .slice pd kd cd] 24))
  have hV2 := Var3.alloc2 w (.cells #[.bool sx, .slice pa ka ca, .slice pb kb cb] 24) (x := .bool sy) (y := .slice pc kc cc) (z := .slice pd kd cd) 24 trivial trivial trivial
  rw [← hsx] at HX ⊢
  rw [← hsy] at HY ⊢
  clear hsx hsy
  have HX0 := hid (HX.out.below hal)
  have HY0 := hid (HY.out.below hal)
  have HT0 := hid (ht.below hal)
  have HB := hid hal
  have HVx := hid hV
  have HVy := hid hV2
  clear HX HY ht hal hV hV2
  go_enter Tryd.func6, Tryd.ntmps6
  go_upto_region 1 with fail
  generalize (w.alloc (.cells #[.bool sx, .slice pa ka ca, .slice pb kb cb] 24)).alloc (.cells #[.bool sy, .slice pc kc cc, .slice pd kd cd] 24) = W0 at *
  obtain ⟨g, hg⟩ : ∃ g, g = cmt x y := ⟨_, rfl⟩
  obtain ⟨c, hc⟩ : ∃ c, c = cmc x y := ⟨_, rfl⟩
  have HC := hid (nCompare_any _ _ x y W0 HX0.out HY0.out HT0.out)
  rw [← hg, ← hc] at HC
  have HG := hid (And.intro hg hc)
  clear hg hc
  obtain ⟨a0, a1, a2, _⟩ := HVx.out.cells
  obtain ⟨b0, b1, b2, _⟩ := HVy.out.cells
  go_wp2_with fail
  refine HC.out.mono ?_
  rintro e w1 ⟨rfl, hst⟩
  clear HC a0 a1 a2 b0 b1 b2
  replace HVx := hid (HVx.out.below hst)
  replace HVy := hid (HVy.out.below hst)
  replace HX0 := hid (HX0.out.below hst)
  replace HY0 := hid (HY0.out.below hst)
  replace HT0 := hid (HT0.out.below hst)
  replace HB := hid (HB.out.trans (hst.mono HB.out.size))
  clear hst
  go_upto_region 2 with fail
  have HL1 := hid (Large_any _ x w1 HX0.out)
  obtain ⟨a0, a1, a2, _⟩ := HVx.out.cells
  obtain ⟨b0, b1, b2, _⟩ := HVy.out.cells
  cases hL1 : large x.2.1 x.2.2
  case true =>
    rw [hL1] at HL1
    have hg := HG.out.1
    have hc := HG.out.2
    unfold cmt at hg
    unfold cmc at hc
    rw [hL1] at hg hc
    have hg2 : g = 0 := hg
    have hc2 : c = 1 := hc
    subst hg2
    subst hc2
    clear hg hc HG
    go_wp2_with fail
    refine HL1.out.mono ?_
    rintro e w2 ⟨rfl, hst⟩
    clear HL1 a0 a1 a2 b0 b1 b2
    replace HVx := hid (HVx.out.below hst)
    replace HVy := hid (HVy.out.below hst)
    replace HX0 := hid (HX0.out.below hst)
    replace HY0 := hid (HY0.out.below hst)
    replace HT0 := hid (HT0.out.below hst)
    replace HB := hid (HB.out.trans (hst.mono HB.out.size))
    clear hst
    have HAw := hid (awake_any w2 HT0.out)
    go_wp2_with fail
    refine HAw.out.mono ?_
    rintro e w3 ⟨rfl, hst⟩
    have HZ := hid (HB.out.trans (hst.mono HB.out.size))
    clear hst
    go_wp2_with fail
    go_ret
    exact ⟨rfl, HZ.out⟩
  case false =>
    rw [hL1] at HL1
    go_wp2_with fail
    refine HL1.out.mono ?_
    rintro e w2 ⟨rfl, hst⟩
    clear HL1 a0 a1 a2 b0 b1 b2
    replace HVx := hid (HVx.out.below hst)
    replace HVy := hid (HVy.out.below hst)
    replace HX0 := hid (HX0.out.below hst)
    replace HY0 := hid (HY0.out.below hst)
    replace HT0 := hid (HT0.out.below hst)
    replace HB := hid (HB.out.trans (hst.mono HB.out.size))
    clear hst
    obtain ⟨a0, a1, a2, _⟩ := HVx.out.cells
    obtain ⟨b0, b1, b2, _⟩ := HVy.out.cells
    have HL2 := hid (Large_any _ y w2 HY0.out)
    go_wp2_with fail
    refine HL2.out.mono ?_
    rintro e w4 ⟨rfl, hst⟩
    clear HL2 a0 a1 a2 b0 b1 b2
    replace HVx := hid (HVx.out.below hst)
    replace HVy := hid (HVy.out.below hst)
    replace HX0 := hid (HX0.out.below hst)
    replace HY0 := hid (HY0.out.below hst)
    replace HT0 := hid (HT0.out.below hst)
    replace HB := hid (HB.out.trans (hst.mono HB.out.size))
    clear hst
    cases hL2 : large y.2.1 y.2.2
    case true =>
      have hg := HG.out.1
      have hc := HG.out.2
      unfold cmt at hg
      unfold cmc at hc
      rw [hL1, hL2] at hg hc
      have hg2 : g = 0 := hg
      have hc2 : c = 1 := hc
      subst hg2
      subst hc2
      clear hg hc HG
      have HAw := hid (awake_any w4 HT0.out)
      go_wp2_with fail
      refine HAw.out.mono ?_
      rintro e w3 ⟨rfl, hst⟩
      have HZ := hid (HB.out.trans (hst.mono HB.out.size))
      clear hst
      go_wp2_with fail
      go_ret
      exact ⟨rfl, HZ.out⟩
    case false =>
      have hg := HG.out.1
      have hc := HG.out.2
      unfold cmt at hg
      unfold cmc at hc
      rw [hL1, hL2] at hg hc
      have hg2 : g = fcmp (fr x) (fr y) := hg
      have hc2 : c = 0 := hc
      have hbx := fr_bd hL1
      have hby := fr_bd hL2
      have HO1 := hid (fun (W : World) (hW : Below w4.heap.size w4 W) => rOfF_any _ x W (HX0.out.below hW) hL1)
      have HO2 := hid (fun (W : World) (hW : Below w4.heap.size w4 W) => rOfF_any _ y W (HY0.out.below hW) hL2)
      obtain ⟨A, hA1, hA2⟩ : ∃ A : Nat, 128 ≤ A ∧ A ≤ 1000000 := ⟨128, by omega, by omega⟩
      have HCm := hid (fun (W : World) (v1 v2 : Value) (q1 : QNorm W v1 (fr x)) (q2 : QNorm W v2 (fr y)) => rCmp_any v1 v2 (fr x) (fr y) A W q1 q2 (lt_W_B6 hbx.1 (by omega)) (lt_W_B6 hbx.2 (by omega)) (lt_W_B6 hby.1 (by omega)) (lt_W_B6 hby.2 (by omega)) hA2 (frac_pos (den1_pos _)) (frac_pos (den1_pos _)))
      rw [← hg2] at HCm
      subst hc2
      have HAw := hid (fun (W : World) (hW : Below w4.heap.size w4 W) => awake_any W (HT0.out.below hW))
      have HS : Hid (∀ w', Below w4.heap.size w4 w' → (w'.cell? ⟨w.heap.size, 0, none⟩ = some (.bool sx) ∧ w'.cell? ⟨w.heap.size, 1, none⟩ = some (.slice pa ka ca) ∧ w'.cell? ⟨w.heap.size, 2, none⟩ = some (.slice pb kb cb) ∧ w'.cell? ⟨w.heap.size + 1, 0, none⟩ = some (.bool sy) ∧ w'.cell? ⟨w.heap.size + 1, 1, none⟩ = some (.slice pc kc cc) ∧ w'.cell? ⟨w.heap.size + 1, 2, none⟩ = some (.slice pd kd cd) ∧ Hid (Below w4.heap.size w4 w'))) :=
        hid fun w' hb => ⟨(HVx.out.below hb).cells.1, (HVx.out.below hb).cells.2.1, (HVx.out.below hb).cells.2.2.1, (HVy.out.below hb).cells.1, (HVy.out.below hb).cells.2.1, (HVy.out.below hb).cells.2.2.1, hid hb⟩
      clear hA1 hA2 hg hc HG hg2 hbx hby hL1 hL2
      go_upto_region 4 with fail
      go_region_held3 (fun w' => w'.cell? ⟨w.heap.size, 0, none⟩ = some (.bool sx) ∧ w'.cell? ⟨w.heap.size, 1, none⟩ = some (.slice pa ka ca) ∧ w'.cell? ⟨w.heap.size, 2, none⟩ = some (.slice pb kb cb) ∧ w'.cell? ⟨w.heap.size + 1, 0, none⟩ = some (.bool sy) ∧ w'.cell? ⟨w.heap.size + 1, 1, none⟩ = some (.slice pc kc cc) ∧ w'.cell? ⟨w.heap.size + 1, 2, none⟩ = some (.slice pd kd cd) ∧ Hid (Below w4.heap.size w4 w'))
        (first | exact HS.out _ (Below.refl _ _).drew | (exact HS.out _ (by assumption)))
        (first
          | (go_at_call_of 21 ka; refine (HO1.out _ (held6 (N := w4.heap.size) (W0 := w4) (by assumption))).mono ?_; rintro e wa ⟨s5, p5, k5, c5, p6, k6, c6, rfl, hQ1, hBa⟩; have hKa := held_any (held6 (N := w4.heap.size) (W0 := w4) (by assumption)) hBa)
          | (go_at_call_of 21 kc; refine (HO2.out _ (held6 (N := w4.heap.size) (W0 := w4) (by assumption))).mono ?_; rintro e wb ⟨s7, p7, k7, c7, p8, k8, c8, rfl, hQ2, hBb⟩; have hKb := held_any (held6 (N := w4.heap.size) (W0 := w4) (by assumption)) hBb)
          | (go_at_call 34; (first | refine (HCm.out _ _ _ (hQ1.out.below hBb) hQ2.out).mono ?_ | refine (HCm.out _ _ _ hQ1.out (hQ2.out.below hBa)).mono ?_); rintro e wc ⟨rfl, hBc⟩; have hKc := held_any (held6 (N := w4.heap.size) (W0 := w4) (by assumption)) hBc)
          | (go_at_call 18; refine (HAw.out _ (held6 (N := w4.heap.size) (W0 := w4) (by assumption))).mono ?_; rintro e wz ⟨rfl, hBz⟩; have hKz := held_any (held6 (N := w4.heap.size) (W0 := w4) (by assumption)) hBz))
      all_goals
        rename_i hHeld
        have HZ := hid (HB.out.trans ((held6 (N := w4.heap.size) (W0 := w4) hHeld).mono HB.out.size))
        clear hHeld
        go_wp2_with fail
        go_ret
        exact ⟨rfl, HZ.out⟩
end Go.Proofs.YtdinpeglclkjhaaDoor
