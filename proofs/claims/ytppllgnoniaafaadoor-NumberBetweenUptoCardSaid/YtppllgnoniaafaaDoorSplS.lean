/- The simplest number between two, in the specification: Simplest. -/
import Derived.Test.YtppllgnoniaafaaDoorSplQ
namespace Go.Proofs.YtppllgnoniaafaaDoor
open Go.RowKit Dg

def splc (x y : Bool × Nat × Nat) : Int := if 0 < fcmp (fr x) (fr y) then 11 else 0
def slc (x y : Bool × Nat × Nat) : Int := ncode x.2.1 x.2.2 y.2.1 y.2.2 (splc x y) (fpl (fr x) (fr y))
theorem fle_of {x y : Bool × Nat × Nat} (h : ¬ 0 < fcmp x y) : fle x y := by
  unfold fle
  unfold fcmp cmpI at h
  rcases Int.lt_trichotomy (sv x.1 x.2.1 * (y.2.2 : Int)) (sv y.1 y.2.1 * (x.2.2 : Int)) with h1 | h1 | h1
  · exact Int.le_of_lt h1
  · exact Int.le_of_eq h1
  · rw [if_neg (by omega), if_pos h1] at h
    exact absurd (by decide) h
theorem slc_fr {x y : Bool × Nat × Nat} (h : slc x y = 0) : IsFr (fpl (fr x) (fr y)) ∧ big (fpl (fr x) (fr y)).2.1 (fpl (fr x) (fr y)).2.2 = false := by
  obtain ⟨_, _, h3, h4⟩ := ncode_zero h
  refine ⟨fpl_fr (fle_of fun h0 => ?_) (IsFr.fr x).pos (IsFr.fr y).pos (IsFr.fr y).zs, h4⟩
  unfold splc at h3
  rw [if_pos h0] at h3
  exact absurd h3 (by decide)

theorem rSimp_ret {W : World} {B : Nat} {x y z ev : Value} {tm : Array Value} {R : Ending → World → Prop} (h2 : tm[4]?.getD undef = .pointer (some ⟨B, 0, none⟩)) (h3 : tm[5]?.getD undef = ev) (hV : Var3 W B x y z)
    (hR : R (.returned (.tuple #[.agg #[x, y, z], ev])) W) : bodyPost Tryd.prog Tryd.f27 R .ret { tmps := tm, defers := [] } W := by
  obtain ⟨c0, c1, c2, _, _, _⟩ := hV.cells
  exact bodyPost_ret (v := .tuple #[.agg #[x, y, z], ev]) (by simp [results, Tryd.results27, go_sem, h2, h3, c0, c1, c2]) rfl hR

set_option maxHeartbeats 16000000 in
set_option maxRecDepth 100000 in
theorem rSimplest_u (vx vy : Value) (x y : Bool × Nat × Nat) (w : World) (hx : NRep w vx x) (hy : NRep w vy y) :
    Calls Tryd.prog 27 #[vx, vy] w fun e w' => Below w.heap.size w w' ∧ URF w' e (slc x y) (resT (slc x y) (fpl (fr x) (fr y))) := by
  have HX := hid hx
  have HY := hid hy
  obtain ⟨_, _, rfl, ⟨p1, k1, c1, rfl, _⟩, ⟨p2, k2, c2, rfl, _⟩⟩ := hx
  obtain ⟨_, _, rfl, ⟨p3, k3, c3, rfl, _⟩, ⟨p4, k4, c4, rfl, _⟩⟩ := hy
  obtain ⟨s1, hsx⟩ : ∃ s, s = x.1 := ⟨_, rfl⟩
  obtain ⟨s2, hsy⟩ : ∃ s, s = y.1 := ⟨_, rfl⟩
  rw [← hsx] at HX ⊢
  rw [← hsy] at HY ⊢
  clear hsx hsy
  obtain ⟨cc, hcc⟩ : ∃ c, c = slc x y := ⟨_, rfl⟩
  rw [← hcc]
  obtain ⟨rt, hrt⟩ : ∃ r, r = resT cc (fpl (fr x) (fr y)) := ⟨_, rfl⟩
  rw [← hrt]
  have HC := hid (And.intro hcc hrt)
  clear hcc hrt
  go_enter Tryd.func27, Tryd.ntmps27
  go_upto_region 1 with fail
  have hVa' := ((Var3.alloc w (x := .bool s1) (y := .slice p1 k1 c1) (z := .slice p2 k2 c2) 24 trivial trivial trivial).below ((Below.refl _ _).alloc (Nat.le_refl _) (.cells #[.bool s2, .slice p3 k3 c3, .slice p4 k4 c4] 24))).below ((Below.refl _ _).alloc (Nat.le_refl _) (.cells #[.bool false, .slice none 0 0, .slice none 0 0] 24))
  have hVb' := (Var3.alloc2 w (.cells #[.bool s1, .slice p1 k1 c1, .slice p2 k2 c2] 24) (x := .bool s2) (y := .slice p3 k3 c3) (z := .slice p4 k4 c4) 24 trivial trivial trivial).below ((Below.refl _ _).alloc (Nat.le_refl _) (.cells #[.bool false, .slice none 0 0, .slice none 0 0] 24))
  have hVr := Var3.alloc3 w (.cells #[.bool s1, .slice p1 k1 c1, .slice p2 k2 c2] 24) (.cells #[.bool s2, .slice p3 k3 c3, .slice p4 k4 c4] 24) (x := .bool false) (y := .slice none 0 0) (z := .slice none 0 0) 24 trivial trivial trivial
  have hB0 := below_alloc3 w (.cells #[.bool s1, .slice p1 k1 c1, .slice p2 k2 c2] 24) (.cells #[.bool s2, .slice p3 k3 c3, .slice p4 k4 c4] 24) (.cells #[.bool false, .slice none 0 0, .slice none 0 0] 24)
  generalize hW0 : ((w.alloc (.cells #[.bool s1, .slice p1 k1 c1, .slice p2 k2 c2] 24)).alloc (.cells #[.bool s2, .slice p3 k3 c3, .slice p4 k4 c4] 24)).alloc (.cells #[.bool false, .slice none 0 0, .slice none 0 0] 24) = W0 at *
  clear hW0
  have hn2 : w.heap.size + 1 + 1 ≤ W0.heap.size := by obtain ⟨_, h0, _⟩ := hVr; exact Nat.le_of_lt (Array.getElem?_eq_some_iff.1 h0).1
  have HV := hid (And.intro (And.intro hVa' (And.intro hVb' hVr)) hB0)
  replace HX := hid (HX.out.below hB0)
  replace HY := hid (HY.out.below hB0)
  obtain ⟨x0, x1, x2, _⟩ := hVa'.cells
  obtain ⟨y0, y1, y2, _⟩ := hVb'.cells
  clear hVa' hVb' hVr hB0
  go_wp2_with fail
  have hal := (Below.refl W0.heap.size W0).alloc (Nat.le_refl _) (.cells #[.bool s1, .slice p1 k1 c1, .slice p2 k2 c2, .bool s2, .slice p3 k3 c3, .slice p4 k4 c4] 24)
  have HA := hid (anyLarge_any W0.heap.size s1 s2 p1 p2 p3 p4 k1 k2 k3 k4 c1 c2 c3 c4 x y (W0.alloc (.cells #[.bool s1, .slice p1 k1 c1, .slice p2 k2 c2, .bool s2, .slice p3 k3 c3, .slice p4 k4 c4] 24)) (by rw [World.size_alloc]; omega) (HX.out.below hal) (HY.out.below hal) (by simp only [World.cell?, heap_alloc_new]; rfl) (by simp only [World.cell?, heap_alloc_new]; rfl) (by simp only [World.cell?, heap_alloc_new]; rfl) (by simp only [World.cell?, heap_alloc_new]; rfl) (by simp only [World.cell?, heap_alloc_new]; rfl) (by simp only [World.cell?, heap_alloc_new]; rfl))
  refine HA.out.mono ?_
  rintro e w1 ⟨rfl, hst⟩
  have hst2 := hal.trans (hst.mono hal.size)
  clear HA hst hal x0 x1 x2 y0 y1 y2
  replace HX := hid (HX.out.below hst2)
  replace HY := hid (HY.out.below hst2)
  have hn3 : w.heap.size + 1 + 1 ≤ w1.heap.size := Nat.le_trans hn2 hst2.size
  have HP : Hid ((Var3 w1 w.heap.size (.bool s1) (.slice p1 k1 c1) (.slice p2 k2 c2) ∧ Var3 w1 (w.heap.size + 1) (.bool s2) (.slice p3 k3 c3) (.slice p4 k4 c4) ∧ Var3 w1 (w.heap.size + 1 + 1) (.bool false) (.slice none 0 0) (.slice none 0 0)) ∧ Below w.heap.size w w1) :=
    hid ⟨⟨HV.out.1.1.below hst2, HV.out.1.2.1.below hst2, HV.out.1.2.2.below hst2⟩, HV.out.2.trans (hst2.mono HV.out.2.size)⟩
  clear HV hst2 hn2
  generalize W0.heap.size = BS at *
  cases hl : (large x.2.1 x.2.2 || large y.2.1 y.2.2)
  case true =>
    have hc := HC.out.1
    unfold slc at hc
    rw [ncode_one hl] at hc
    subst hc
    have hr : rt = (false, 0, 0) := HC.out.2.trans (if_neg (by decide))
    subst hr
    clear hl HC HX HY
    obtain ⟨x0, x1, x2, y0, y1, y2⟩ := HP.out.1.2.2.cells
    go_wp2_with fail
    refine rSimp_ret rfl rfl (HP.out.1.2.2.store trivial trivial trivial) ⟨below_set3 HP.out.2 (by omega), ?_⟩
    exact ⟨_, _, _, _, _, _, _, rfl, hid ⟨_, _, rfl, Rep.nil, Rep.nil⟩⟩
  case false =>
    have hc := HC.out.1
    have hr := HC.out.2
    unfold slc at hc
    rw [ncode_ok hl] at hc
    obtain ⟨hl1, hl2⟩ := Bool.or_eq_false_iff.1 hl
    have hbx := fr_bd hl1
    have hby := fr_bd hl2
    obtain ⟨A, hA1, hA2⟩ : ∃ A : Nat, 128 ≤ A ∧ A ≤ 1000 := ⟨128, by omega, by omega⟩
    have HG1 := hid (fun (W : World) (h : NRep W (.agg #[.bool s1, .slice p1 k1 c1, .slice p2 k2 c2]) x) => rOfF_any _ x W h hl1)
    have HG2 := hid (fun (W : World) (h : NRep W (.agg #[.bool s2, .slice p3 k3 c3, .slice p4 k4 c4]) y) => rOfF_any _ y W h hl2)
    have HO1 := hid (fun (W : World) (hW : Below w1.heap.size w1 W) => HG1.out W (HX.out.below hW))
    have HO2 := hid (fun (W : World) (hW : Below w1.heap.size w1 W) => HG2.out W (HY.out.below hW))
    have HCm := hid (fun (W : World) (v1 v2 : Value) (q1 : QNorm W v1 (fr x)) (q2 : QNorm W v2 (fr y)) => rCmp_any v1 v2 (fr x) (fr y) A W q1 q2 (lt_W_B6 hbx.1 hA1) (lt_W_B6 hbx.2 hA1) (lt_W_B6 hby.1 hA1) (lt_W_B6 hby.2 hA1) (by omega) (IsFr.fr x).pos (IsFr.fr y).pos)
    obtain ⟨fc, hfc⟩ : ∃ f, f = fcmp (fr x) (fr y) := ⟨_, rfl⟩
    have hsc : splc x y = if 0 < fc then 11 else 0 := by rw [hfc]; rfl
    rw [← hfc] at HCm
    have HFC := hid hfc
    have HSC := hid hsc
    clear hfc hsc
    have HS : Hid (∀ w', Below (w.heap.size + 1 + 1) w1 w' → (w'.cell? ⟨w.heap.size, 0, none⟩ = some (.bool s1) ∧ w'.cell? ⟨w.heap.size, 1, none⟩ = some (.slice p1 k1 c1) ∧ w'.cell? ⟨w.heap.size, 2, none⟩ = some (.slice p2 k2 c2) ∧ w'.cell? ⟨w.heap.size + 1, 0, none⟩ = some (.bool s2) ∧ w'.cell? ⟨w.heap.size + 1, 1, none⟩ = some (.slice p3 k3 c3) ∧ w'.cell? ⟨w.heap.size + 1, 2, none⟩ = some (.slice p4 k4 c4) ∧ Hid (Below (w.heap.size + 1 + 1) w1 w'))) :=
      hid fun w' hb => ⟨(bcellN hb _ _ (by omega)).trans HP.out.1.1.cells.1, (bcellN hb _ _ (by omega)).trans HP.out.1.1.cells.2.1, (bcellN hb _ _ (by omega)).trans HP.out.1.1.cells.2.2.1, (bcellN hb _ _ (by omega)).trans HP.out.1.2.1.cells.1, (bcellN hb _ _ (by omega)).trans HP.out.1.2.1.cells.2.1, (bcellN hb _ _ (by omega)).trans HP.out.1.2.1.cells.2.2.1, hid hb⟩
    go_wp2_with fail
    go_region_held3 (fun w' => w'.cell? ⟨w.heap.size, 0, none⟩ = some (.bool s1) ∧ w'.cell? ⟨w.heap.size, 1, none⟩ = some (.slice p1 k1 c1) ∧ w'.cell? ⟨w.heap.size, 2, none⟩ = some (.slice p2 k2 c2) ∧ w'.cell? ⟨w.heap.size + 1, 0, none⟩ = some (.bool s2) ∧ w'.cell? ⟨w.heap.size + 1, 1, none⟩ = some (.slice p3 k3 c3) ∧ w'.cell? ⟨w.heap.size + 1, 2, none⟩ = some (.slice p4 k4 c4) ∧ Hid (Below (w.heap.size + 1 + 1) w1 w'))
      (first | exact HS.out _ (Below.refl _ _).drew | (exact HS.out _ (by assumption)) | exact HS.out _ (below_set3 (by assumption) (Nat.le_refl _)))
      (first
        | (go_at_call_of 21 k1; have hKo := held6 (N := w.heap.size + 1 + 1) (W0 := w1) (by assumption); refine (HO1.out _ (by first | assumption | exact (Below.refl _ _).drew)).mono ?_; rintro e wa ⟨s5, p5, k5, c5, p6, k6, c6, rfl, hQ1, hBa⟩; have hKa := held_any (by first | assumption | exact (Below.refl _ _).drew) hBa; have hKa2 := below_pre hKa hn3)
        | (go_at_call_of 21 k3; refine (HO2.out _ (by first | assumption | exact (Below.refl _ _).drew)).mono ?_; rintro e wb ⟨s7, p7, k7, c7, p8, k8, c8, rfl, hQ2, hBb⟩; have hKb := held_any (by first | assumption | exact (Below.refl _ _).drew) hBb; have hKb2 := below_pre hKb hn3)
        | (go_at_call 20; (first | refine (HCm.out _ _ _ (hQ1.out.below hBb) hQ2.out).mono ?_ | refine (HCm.out _ _ _ hQ1.out (hQ2.out.below hBa)).mono ?_); rintro e wc ⟨rfl, hBc⟩; have hKc := held_any (by first | assumption | exact (Below.refl _ _).drew) hBc; have hKc2 := below_pre hKc hn3))
    all_goals
      rename_i hHeld
      clear hHeld
      have hB2 := hKc
      replace HX := hid (HX.out.below hB2)
      replace HY := hid (HY.out.below hB2)
      replace HP := hid (And.intro (And.intro (HP.out.1.1.below hB2) (And.intro (HP.out.1.2.1.below hB2) (HP.out.1.2.2.below hB2))) (HP.out.2.trans (hB2.mono HP.out.2.size)))
      have hn4 : w.heap.size + 1 + 1 ≤ wc.heap.size := Nat.le_trans hn3 hB2.size
      clear hB2 hKc HO1 HO2 HCm HS
      replace HO1 := hid (fun (W : World) (hW : Below wc.heap.size wc W) => HG1.out W (HX.out.below hW))
      have HO2 := hid (fun (W : World) (hW : Below wc.heap.size wc W) => HG2.out W (HY.out.below hW))
      have hsc := HSC.out
      have hfc := HFC.out
      clear HSC HFC
      by_cases h0 : 0 < fc
      · have d1 : decide (0 < fc) = true := decide_eq_true h0
        rw [d1]
        rw [hsc, if_pos h0, if_pos (by decide)] at hc
        subst hc
        have hrr : rt = (false, 0, 0) := hr.trans (if_neg (by decide))
        subst hrr
        clear hr HC HX HY hbx hby hA1 hA2 HG1 HG2 HO1 HO2 hl hl1 hl2 hsc hfc h0
        obtain ⟨x0, x1, x2, y0, y1, y2⟩ := HP.out.1.2.2.cells
        go_wp2_with fail
        refine rSimp_ret rfl rfl (HP.out.1.2.2.store trivial trivial trivial) ⟨below_set3 HP.out.2 (by omega), ?_⟩
        exact ⟨_, _, _, _, _, _, _, rfl, hid ⟨_, _, rfl, Rep.nil, Rep.nil⟩⟩
      · have d1 : decide (0 < fc) = false := decide_eq_false h0
        rw [d1]
        rw [hsc, if_neg h0, if_neg (by decide)] at hc
        have hle : fle (fr x) (fr y) := fle_of (by rw [← hfc]; exact h0)
        have HOp := hid (fun (W : World) (v1 v2 : Value) (q1 : QNorm W v1 (fr x)) (q2 : QNorm W v2 (fr y)) => qopen (t := fpl (fr x) (fr y)) (rPlain_any v1 v2 (fr x) (fr y) A W q1 q2 (lt_W_B6 hbx.1 hA1) (lt_W_B6 hbx.2 hA1) (lt_W_B6 hby.1 hA1) (lt_W_B6 hby.2 hA1) (by omega) hA2 (IsFr.fr x).pos (IsFr.fr y).pos (IsFr.fr x).zs (IsFr.fr y).zs hle))
        have hif := fpl_fr hle (IsFr.fr x).pos (IsFr.fr y).pos (IsFr.fr y).zs
        have HDn := hid (fun (W : World) (v : Value) (q : QNorm W v (fpl (fr x) (fr y))) => Done_any v (fpl (fr x) (fr y)) W q hif.pos hif.zs)
        rw [← hc, ← hr] at HDn
        clear hc hr HC hl hl1 hl2 hbx hby hA1 hA2 hif hle hfc hsc h0 HG1 HG2 hn3
        have hn3 := hn4
        obtain ⟨t, ht⟩ : ∃ t, t = fpl (fr x) (fr y) := ⟨_, rfl⟩
        rw [← ht] at HOp HDn
        clear ht
        have HS : Hid (∀ w', Below (w.heap.size + 1 + 1) wc w' → (w'.cell? ⟨w.heap.size, 0, none⟩ = some (.bool s1) ∧ w'.cell? ⟨w.heap.size, 1, none⟩ = some (.slice p1 k1 c1) ∧ w'.cell? ⟨w.heap.size, 2, none⟩ = some (.slice p2 k2 c2) ∧ w'.cell? ⟨w.heap.size + 1, 0, none⟩ = some (.bool s2) ∧ w'.cell? ⟨w.heap.size + 1, 1, none⟩ = some (.slice p3 k3 c3) ∧ w'.cell? ⟨w.heap.size + 1, 2, none⟩ = some (.slice p4 k4 c4) ∧ Hid (Below (w.heap.size + 1 + 1) wc w'))) :=
          hid fun w' hb => ⟨(bcellN hb _ _ (by omega)).trans HP.out.1.1.cells.1, (bcellN hb _ _ (by omega)).trans HP.out.1.1.cells.2.1, (bcellN hb _ _ (by omega)).trans HP.out.1.1.cells.2.2.1, (bcellN hb _ _ (by omega)).trans HP.out.1.2.1.cells.1, (bcellN hb _ _ (by omega)).trans HP.out.1.2.1.cells.2.1, (bcellN hb _ _ (by omega)).trans HP.out.1.2.1.cells.2.2.1, hid hb⟩
        go_wp2_with fail
        go_region_held3 (fun w' => w'.cell? ⟨w.heap.size, 0, none⟩ = some (.bool s1) ∧ w'.cell? ⟨w.heap.size, 1, none⟩ = some (.slice p1 k1 c1) ∧ w'.cell? ⟨w.heap.size, 2, none⟩ = some (.slice p2 k2 c2) ∧ w'.cell? ⟨w.heap.size + 1, 0, none⟩ = some (.bool s2) ∧ w'.cell? ⟨w.heap.size + 1, 1, none⟩ = some (.slice p3 k3 c3) ∧ w'.cell? ⟨w.heap.size + 1, 2, none⟩ = some (.slice p4 k4 c4) ∧ Hid (Below (w.heap.size + 1 + 1) wc w'))
          (first | exact HS.out _ (Below.refl _ _).drew | (exact HS.out _ (by assumption)) | exact HS.out _ (below_set3 (by assumption) (Nat.le_refl _)))
          (first
            | (go_at_call_of 21 k1; have hKo := held6 (N := w.heap.size + 1 + 1) (W0 := wc) (by assumption); refine (HO1.out _ (by first | assumption | exact (Below.refl _ _).drew)).mono ?_; rintro e wd ⟨s15, p15, k15, c15, p16, k16, c16, rfl, hQ3, hBd⟩; have hKd := held_any (by first | assumption | exact (Below.refl _ _).drew) hBd; have hKd2 := below_pre hKd hn3)
            | (go_at_call_of 21 k3; refine (HO2.out _ (by first | assumption | exact (Below.refl _ _).drew)).mono ?_; rintro e we ⟨s17, p17, k17, c17, p18, k18, c18, rfl, hQ4, hBe⟩; have hKe := held_any (by first | assumption | exact (Below.refl _ _).drew) hBe; have hKe2 := below_pre hKe hn3)
            | (go_at_call 60; (first | refine (HOp.out _ _ _ (hQ3.out.below hBe) hQ4.out).mono ?_ | refine (HOp.out _ _ _ hQ3.out (hQ4.out.below hBd)).mono ?_); rintro e wf ⟨s9, p9, k9, c9, p10, k10, c10, rfl, hQ5, hBf⟩; have hKf := held_any (by first | assumption | exact (Below.refl _ _).drew) hBf; have hKf2 := below_pre hKf hn3)
            | (go_at_call 30; refine (HDn.out _ _ hQ5.out).mono ?_; rintro e wg ⟨hBg, sg, pa, ka, ca, pb, kb, cb, rfl, HF⟩; have hKg := held_any hKf hBg; have hKg2 := below_pre hKg hn3; obtain ⟨x0, x1, x2, y0, y1, y2⟩ := (HP.out.1.2.2.below hKg).cells))
        all_goals
          rename_i hHeld
          clear hHeld
          go_wp2_with fail
          exact rSimp_ret rfl rfl ((HP.out.1.2.2.below hKg).store trivial trivial trivial) ⟨below_set3 (HP.out.2.trans (hKg.mono HP.out.2.size)) (by show w.heap.size ≤ w.heap.size + 1 + 1; omega), _, _, _, _, _, _, _, rfl, hid (HF.out.store3 (HP.out.1.2.2.below hKg) _ _ _)⟩
end Go.Proofs.YtppllgnoniaafaaDoor
