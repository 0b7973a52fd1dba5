/- The law NumberMuls, with the reference's Quo. -/
import Derived.Test.YtdinpeglclkjhaaDoorRefY
namespace Go.Proofs.YtdinpeglclkjhaaDoor
open Go.RowKit Dg

theorem rDivF (va vb : Value) (x y : Bool × Nat × Nat) (A : Nat) (w : World) (ha : QNorm w va x) (hb : QNorm w vb y)
    (hn1 : x.2.1 < B16 ^ A) (hd1 : x.2.2 < B16 ^ A) (hn2 : y.2.1 < B16 ^ A) (hd2 : y.2.2 < B16 ^ A) (hA : A ≤ 1000000) (h1 : 0 < x.2.2) (h2 : 0 < y.2.2) (h3 : 0 < y.2.1) :
    Calls Tryd.prog 82 #[va, vb] w fun e w' => ∃ v', e = .returned v' ∧ QNorm w' v' (fmul x (finv y)) ∧ Below w.heap.size w w' :=
  rDiv_any va vb x y A w ha hb hn1 hd1 hn2 hd2 hA h1 h2 h3

theorem rQuo_ret {W : World} {B : Nat} {x y z ev : Value} {tm : Array Value} {R : Ending → World → Prop} (h2 : tm[4]?.getD undef = .pointer (some ⟨B, 0, none⟩)) (h3 : tm[5]?.getD undef = ev) (hV : Var3 W B x y z)
    (hR : R (.returned (.tuple #[.agg #[x, y, z], ev])) W) : bodyPost Tryd.prog Tryd.f41 R .ret { tmps := tm, defers := [] } W := by
  obtain ⟨c0, c1, c2, _, _, _⟩ := hV.cells
  exact bodyPost_ret (v := .tuple #[.agg #[x, y, z], ev]) (by simp [results, Tryd.results41, go_sem, h2, h3, c0, c1, c2]) rfl hR

set_option maxHeartbeats 8000000 in
set_option maxRecDepth 100000 in
theorem rQuo_u (vx vy : Value) (x y : Bool × Nat × Nat) (w : World) (hx : NRep w vx x) (hy : NRep w vy y) :
    Calls Tryd.prog 41 #[vx, vy] w fun e w' => Below w.heap.size w w' ∧ URF w' e (divc x y) (divt x y) := by
  have HX := hid hx
  have HY := hid hy
  obtain ⟨_, _, rfl, ⟨p1, k1, c1, rfl, _⟩, ⟨p2, k2, c2, rfl, _⟩⟩ := hx
  obtain ⟨_, _, rfl, ⟨p3, k3, c3, rfl, _⟩, ⟨p4, k4, c4, rfl, _⟩⟩ := hy
  obtain ⟨s1, hsx⟩ : ∃ s, s = x.1 := ⟨_, rfl⟩
  obtain ⟨s2, hsy⟩ : ∃ s, s = y.1 := ⟨_, rfl⟩
  rw [← hsx] at HX ⊢
  rw [← hsy] at HY ⊢
  clear hsx hsy
  obtain ⟨cc, hcc⟩ : ∃ c, c = divc x y := ⟨_, rfl⟩
  have htt : divt x y = resT cc (fmul (fr x) (finv (fr y))) := by rw [hcc]; rfl
  rw [htt, ← hcc]
  obtain ⟨rt, hrt⟩ : ∃ r, r = resT cc (fmul (fr x) (finv (fr y))) := ⟨_, rfl⟩
  rw [← hrt]
  have HC := hid (And.intro hcc hrt)
  clear hcc htt hrt
  go_enter Tryd.func41, Tryd.ntmps41
  go_upto_region 1 with fail
  have hVa : Var3 (w.alloc (.cells #[.bool s1, .slice p1 k1 c1, .slice p2 k2 c2] 24)) w.heap.size (.bool s1) (.slice p1 k1 c1) (.slice p2 k2 c2) := Var3.alloc w 24 trivial trivial trivial
  have hVb := Var3.alloc2 w (.cells #[.bool s1, .slice p1 k1 c1, .slice p2 k2 c2] 24) (x := .bool s2) (y := .slice p3 k3 c3) (z := .slice p4 k4 c4) 24 trivial trivial trivial
  have hVr := Var3.alloc3 w (.cells #[.bool s1, .slice p1 k1 c1, .slice p2 k2 c2] 24) (.cells #[.bool s2, .slice p3 k3 c3, .slice p4 k4 c4] 24) (x := .bool false) (y := .slice none 0 0) (z := .slice none 0 0) 24 trivial trivial trivial
  have hB0 := below_alloc3 w (.cells #[.bool s1, .slice p1 k1 c1, .slice p2 k2 c2] 24) (.cells #[.bool s2, .slice p3 k3 c3, .slice p4 k4 c4] 24) (.cells #[.bool false, .slice none 0 0, .slice none 0 0] 24)
  have hVa' := (hVa.below ((Below.refl _ _).alloc (Nat.le_refl _) (.cells #[.bool s2, .slice p3 k3 c3, .slice p4 k4 c4] 24))).below ((Below.refl _ _).alloc (Nat.le_refl _) (.cells #[.bool false, .slice none 0 0, .slice none 0 0] 24))
  have hVb' := hVb.below ((Below.refl _ _).alloc (Nat.le_refl _) (.cells #[.bool false, .slice none 0 0, .slice none 0 0] 24))
  clear hVa hVb
  generalize hW0 : ((w.alloc (.cells #[.bool s1, .slice p1 k1 c1, .slice p2 k2 c2] 24)).alloc (.cells #[.bool s2, .slice p3 k3 c3, .slice p4 k4 c4] 24)).alloc (.cells #[.bool false, .slice none 0 0, .slice none 0 0] 24) = W0 at *
  clear hW0
  have hn2 : w.heap.size + 1 + 1 ≤ W0.heap.size := by obtain ⟨_, h0, _⟩ := hVr; exact Nat.le_of_lt (Array.getElem?_eq_some_iff.1 h0).1
  have HV := hid (And.intro (And.intro hVa' (And.intro hVb' hVr)) hB0)
  replace HX := hid (HX.out.below hB0)
  replace HY := hid (HY.out.below hB0)
  obtain ⟨x0, x1, x2, _⟩ := hVa'.cells
  obtain ⟨y0, y1, y2, _⟩ := hVb'.cells
  clear hVa' hVb' hVr hB0
  go_wp2_with fail
  have hal := (Below.refl W0.heap.size W0).alloc (Nat.le_refl _) (.cells #[.bool s1, .slice p1 k1 c1, .slice p2 k2 c2, .bool s2, .slice p3 k3 c3, .slice p4 k4 c4] 24)
  have HA := hid (anyLarge_any W0.heap.size s1 s2 p1 p2 p3 p4 k1 k2 k3 k4 c1 c2 c3 c4 x y (W0.alloc (.cells #[.bool s1, .slice p1 k1 c1, .slice p2 k2 c2, .bool s2, .slice p3 k3 c3, .slice p4 k4 c4] 24)) (by rw [World.size_alloc]; omega) (HX.out.below hal) (HY.out.below hal) (by simp only [World.cell?, heap_alloc_new]; rfl) (by simp only [World.cell?, heap_alloc_new]; rfl) (by simp only [World.cell?, heap_alloc_new]; rfl) (by simp only [World.cell?, heap_alloc_new]; rfl) (by simp only [World.cell?, heap_alloc_new]; rfl) (by simp only [World.cell?, heap_alloc_new]; rfl))
  refine HA.out.mono ?_
  rintro e w1 ⟨rfl, hst⟩
  have hst2 := hal.trans (hst.mono hal.size)
  clear HA hst hal x0 x1 x2 y0 y1 y2
  replace HX := hid (HX.out.below hst2)
  replace HY := hid (HY.out.below hst2)
  have hn3 : w.heap.size + 1 + 1 ≤ w1.heap.size := Nat.le_trans hn2 hst2.size
  have HP : Hid ((Var3 w1 w.heap.size (.bool s1) (.slice p1 k1 c1) (.slice p2 k2 c2) ∧ Var3 w1 (w.heap.size + 1) (.bool s2) (.slice p3 k3 c3) (.slice p4 k4 c4) ∧ Var3 w1 (w.heap.size + 1 + 1) (.bool false) (.slice none 0 0) (.slice none 0 0)) ∧ Below w.heap.size w w1) :=
    hid ⟨⟨HV.out.1.1.below hst2, HV.out.1.2.1.below hst2, HV.out.1.2.2.below hst2⟩, HV.out.2.trans (hst2.mono HV.out.2.size)⟩
  clear HV hst2 hn2
  generalize W0.heap.size = BS at *
  cases hl : (large x.2.1 x.2.2 || large y.2.1 y.2.2)
  case true =>
    have hc := HC.out.1
    unfold divc at hc
    rw [ncode_one hl] at hc
    subst hc
    have hr : rt = (false, 0, 0) := HC.out.2.trans (if_neg (by decide))
    subst hr
    clear hl HC HX HY
    obtain ⟨x0, x1, x2, y0, y1, y2⟩ := HP.out.1.2.2.cells
    go_wp2_with fail
    refine rQuo_ret rfl rfl (HP.out.1.2.2.store trivial trivial trivial) ⟨below_set3 HP.out.2 (by omega), ?_⟩
    exact ⟨_, _, _, _, _, _, _, rfl, hid ⟨_, _, rfl, Rep.nil, Rep.nil⟩⟩
  case false =>
    have hc := HC.out.1
    have hr := HC.out.2
    unfold divc at hc
    rw [ncode_ok hl] at hc
    obtain ⟨hl1, hl2⟩ := Bool.or_eq_false_iff.1 hl
    have hbx := fr_bd hl1
    have hby := fr_bd hl2
    have hO := hid (rOfF_any _ y w1 HY.out hl2)
    have HSg := hid (fun (W : World) (v : Value) (hq : QNorm W v (fr y)) => Sgn_any v (fr y) W hq (IsFr.fr y).zs)
    go_upto_region 3 with fail
    obtain ⟨b0, b1, b2, _⟩ := HP.out.1.2.1.cells
    go_wp2_with fail
    refine hO.out.mono ?_
    rintro e w2 ⟨s4, p14, k14, c14, p15, k15, c15, rfl, hQ, hst⟩
    have hst' := hst
    replace HX := hid (HX.out.below hst)
    replace HY := hid (HY.out.below hst)
    replace HP := hid (And.intro (And.intro (HP.out.1.1.below hst) (And.intro (HP.out.1.2.1.below hst) (HP.out.1.2.2.below hst))) (HP.out.2.trans (hst.mono HP.out.2.size)))
    have hn3 := Nat.le_trans hn3 hst'.size
    clear hst hst' b0 b1 b2 hO
    go_wp2_with fail
    refine (HSg.out _ _ hQ.out).mono ?_
    rintro e w3 ⟨rfl, hst⟩
    have hst' := hst
    replace HX := hid (HX.out.below hst)
    replace HY := hid (HY.out.below hst)
    replace HP := hid (And.intro (And.intro (HP.out.1.1.below hst) (And.intro (HP.out.1.2.1.below hst) (HP.out.1.2.2.below hst))) (HP.out.2.trans (hst.mono HP.out.2.size)))
    have hn3 := Nat.le_trans hn3 hst'.size
    clear hst hst' HSg hQ
    by_cases hz : (fr y).2.1 = 0
    · rw [if_pos hz] at hc
      have hc1 : cc = 10 := hc.trans (if_pos (by decide))
      have hsg : sgn (fr y).1 (fr y).2.1 = 0 := by rw [hz, (IsFr.fr y).zs hz]; rfl
      rw [hsg]
      subst hc1
      have hr2 : rt = (false, 0, 0) := hr.trans (if_neg (by decide))
      subst hr2
      clear hc hr HC hl hl1 hl2 hbx hby hz hsg HX HY
      obtain ⟨x0, x1, x2, y0, y1, y2⟩ := HP.out.1.2.2.cells
      go_wp2_with fail
      refine rQuo_ret rfl rfl (HP.out.1.2.2.store trivial trivial trivial) ⟨below_set3 HP.out.2 (by omega), ?_⟩
      exact ⟨_, _, _, _, _, _, _, rfl, hid ⟨_, _, rfl, Rep.nil, Rep.nil⟩⟩
    rw [if_neg hz] at hc
    rw [if_neg (by decide)] at hc
    have hsg : (sgn (fr y).1 (fr y).2.1 == 0) = false := by
      have h : sgn (fr y).1 (fr y).2.1 ≠ 0 := by unfold sgn; cases (fr y).1 <;> simp [hz]
      simpa using h
    generalize sgn (fr y).1 (fr y).2.1 = gy at hsg ⊢
    obtain ⟨A, hA1, hA2⟩ : ∃ A : Nat, 128 ≤ A ∧ A ≤ 1000000 := ⟨128, by omega, by omega⟩
    have HO1 := hid (fun (W : World) (hW : Below w3.heap.size w3 W) => rOfF_any _ x W (HX.out.below hW) hl1)
    have HO2 := hid (fun (W : World) (hW : Below w3.heap.size w3 W) => rOfF_any _ y W (HY.out.below hW) hl2)
    have HOp := hid (fun (W : World) (v1 v2 : Value) (q1 : QNorm W v1 (fr x)) (q2 : QNorm W v2 (fr y)) => qopen (t := fmul (fr x) (finv (fr y))) (rDivF v1 v2 (fr x) (fr y) A W q1 q2 (lt_W_B6 hbx.1 hA1) (lt_W_B6 hbx.2 hA1) (lt_W_B6 hby.1 hA1) (lt_W_B6 hby.2 hA1) hA2 (IsFr.fr x).pos (IsFr.fr y).pos (Nat.pos_of_ne_zero hz)))
    have hif : IsFr (fmul (fr x) (finv (fr y))) := IsFr.mul (IsFr.fr x).pos (Nat.pos_of_ne_zero hz)
    have HDn := hid (fun (W : World) (v : Value) (q : QNorm W v (fmul (fr x) (finv (fr y)))) => Done_any v (fmul (fr x) (finv (fr y))) W q hif.pos hif.zs)
    rw [← hc, ← hr] at HDn
    clear hc hr HC hl hl1 hl2 hbx hby hA1 hA2 hif hz
    obtain ⟨t, ht⟩ : ∃ t, t = fmul (fr x) (finv (fr y)) := ⟨_, rfl⟩
    rw [← ht] at HOp HDn
    clear ht
    have HS : Hid (∀ w', Below (w.heap.size + 1 + 1) w3 w' → (w'.cell? ⟨w.heap.size, 0, none⟩ = some (.bool s1) ∧ w'.cell? ⟨w.heap.size, 1, none⟩ = some (.slice p1 k1 c1) ∧ w'.cell? ⟨w.heap.size, 2, none⟩ = some (.slice p2 k2 c2) ∧ w'.cell? ⟨w.heap.size + 1, 0, none⟩ = some (.bool s2) ∧ w'.cell? ⟨w.heap.size + 1, 1, none⟩ = some (.slice p3 k3 c3) ∧ w'.cell? ⟨w.heap.size + 1, 2, none⟩ = some (.slice p4 k4 c4) ∧ Hid (Below (w.heap.size + 1 + 1) w3 w'))) :=
      hid fun w' hb => ⟨(bcellN hb _ _ (by omega)).trans HP.out.1.1.cells.1, (bcellN hb _ _ (by omega)).trans HP.out.1.1.cells.2.1, (bcellN hb _ _ (by omega)).trans HP.out.1.1.cells.2.2.1, (bcellN hb _ _ (by omega)).trans HP.out.1.2.1.cells.1, (bcellN hb _ _ (by omega)).trans HP.out.1.2.1.cells.2.1, (bcellN hb _ _ (by omega)).trans HP.out.1.2.1.cells.2.2.1, hid hb⟩
    go_upto_region 5 with fail
    go_region_held3 (fun w' => w'.cell? ⟨w.heap.size, 0, none⟩ = some (.bool s1) ∧ w'.cell? ⟨w.heap.size, 1, none⟩ = some (.slice p1 k1 c1) ∧ w'.cell? ⟨w.heap.size, 2, none⟩ = some (.slice p2 k2 c2) ∧ w'.cell? ⟨w.heap.size + 1, 0, none⟩ = some (.bool s2) ∧ w'.cell? ⟨w.heap.size + 1, 1, none⟩ = some (.slice p3 k3 c3) ∧ w'.cell? ⟨w.heap.size + 1, 2, none⟩ = some (.slice p4 k4 c4) ∧ Hid (Below (w.heap.size + 1 + 1) w3 w'))
      (first | exact HS.out _ (Below.refl _ _).drew | (exact HS.out _ (by assumption)) | exact HS.out _ (below_set3 (by assumption) (Nat.le_refl _)))
      (first
        | (go_at_call_of 21 k1; refine (HO1.out _ (by first | assumption | exact (Below.refl _ _).drew)).mono ?_; rintro e wa ⟨s5, p5, k5, c5, p6, k6, c6, rfl, hQ1, hBa⟩; have hKa := held_any (by first | assumption | exact (Below.refl _ _).drew) hBa; have hKa2 := below_pre hKa hn3)
        | (go_at_call_of 21 k3; refine (HO2.out _ (by first | assumption | exact (Below.refl _ _).drew)).mono ?_; rintro e wb ⟨s7, p7, k7, c7, p8, k8, c8, rfl, hQ2, hBb⟩; have hKb := held_any (by first | assumption | exact (Below.refl _ _).drew) hBb; have hKb2 := below_pre hKb hn3)
        | (go_at_call 82; (first | refine (HOp.out _ _ _ (hQ1.out.below hBb) hQ2.out).mono ?_ | refine (HOp.out _ _ _ hQ1.out (hQ2.out.below hBa)).mono ?_); rintro e wc ⟨s9, p9, k9, c9, p10, k10, c10, rfl, hQ3, hBc⟩; have hKc := held_any (by first | assumption | exact (Below.refl _ _).drew) hBc; have hKc2 := below_pre hKc hn3)
        | (go_at_call 76; refine (HDn.out _ _ hQ3.out).mono ?_; rintro e wd ⟨hBd, sg, pa, ka, ca, pb, kb, cb, rfl, HF⟩; have hKd := held_any (by first | assumption | exact (Below.refl _ _).drew) hBd; have hKd2 := below_pre hKd hn3; obtain ⟨x0, x1, x2, y0, y1, y2⟩ := (HP.out.1.2.2.below hKd).cells))
    all_goals
      rename_i hHeld
      clear hHeld
      go_wp2_with fail
      exact rQuo_ret rfl rfl ((HP.out.1.2.2.below hKd).store trivial trivial trivial) ⟨below_set3 (HP.out.2.trans (hKd.mono HP.out.2.size)) (by omega), ⟨_, _, _, _, _, _, _, rfl, hid (HF.out.store3 (HP.out.1.2.2.below hKd) _ _ _)⟩⟩

theorem res_ok {t : Bool × Nat × Nat} (h : IsFr t) (hb : big t.2.1 t.2.2 = false) : Canon (outF t).1 (outF t).2.1 (outF t).2.2 ∧ Few (outF t) := by
  obtain ⟨s, n, d, hd, rfl⟩ := h
  exact ⟨canon_out hd, few_out (big_lt hb).1 (big_lt hb).2⟩
theorem Is_same (v u : Value) (c : Int) (r : Bool × Nat × Nat) (w : World) (hv : FNorm w v r) (hu : FNorm w u r) (h0 : c = 0 → Canon r.1 r.2.1 r.2.2 ∧ Few r) (h1 : c ≠ 0 → r = (false, 0, 0)) :
    Calls Tryd.prog 19 #[v, .int .i64 c, u, .int .i64 c] w fun e w' => e = .returned (.bool true) ∧ Below w.heap.size w w' := by
  by_cases hc : c = 0
  · subst hc
    exact Is_ok v u r w hv hu (h0 rfl).1 (h0 rfl).2
  · have := h1 hc
    subst this
    exact Is_err v u c _ w hv hu hc
theorem resT_ok {c : Int} {t : Bool × Nat × Nat} (h : IsFr t) (hz : c = 0 → big t.2.1 t.2.2 = false) : c = 0 → Canon (resT c t).1 (resT c t).2.1 (resT c t).2.2 ∧ Few (resT c t) := by
  intro h0
  rw [resT, if_pos h0]
  exact res_ok h (hz h0)
theorem resT_no {c : Int} {t : Bool × Nat × Nat} : c ≠ 0 → resT c t = (false, 0, 0) := fun h => if_neg h



theorem resT_ok2 {c : Int} {t : Bool × Nat × Nat} (h : c = 0 → IsFr t ∧ big t.2.1 t.2.2 = false) : c = 0 → Canon (resT c t).1 (resT c t).2.1 (resT c t).2.2 ∧ Few (resT c t) := by
  intro h0
  rw [resT, if_pos h0]
  exact res_ok (h h0).1 (h h0).2
theorem div_ok (x y : Bool × Nat × Nat) (h : divc x y = 0) : IsFr (fmul (fr x) (finv (fr y))) ∧ big (fmul (fr x) (finv (fr y))).2.1 (fmul (fr x) (finv (fr y))).2.2 = false := by
  unfold divc at h
  refine ⟨IsFr.mul (IsFr.fr x).pos (Nat.pos_of_ne_zero fun hz => ?_), (ncode_zero h).2.2.2⟩
  have hz2 : (fr y).2.1 = 0 := hz
  have h3 := (ncode_zero h).2.2.1
  rw [if_pos hz2] at h3
  exact absurd h3 (by decide)

set_option maxHeartbeats 16000000 in
set_option maxRecDepth 100000 in
theorem NumberMuls_any (vx vy : Value) (x y : Bool × Nat × Nat) (w : World) (hx : NRep w vx x) (hy : NRep w vy y) (ht : TabOk w) :
    Calls Tryd.prog 8 #[vx, vy] w fun e w' => e = .returned (.bool true) ∧ Below w.heap.size w w' := by
  have HX := hid hx
  have HY := hid hy
  obtain ⟨_, _, rfl, ⟨pa, ka, ca, rfl, _⟩, ⟨pb, kb, cb, rfl, _⟩⟩ := hx
  obtain ⟨_, _, rfl, ⟨pc, kc, cc, rfl, _⟩, ⟨pd, kd, cd, rfl, _⟩⟩ := hy
  obtain ⟨sx, hsx⟩ : ∃ s, s = x.1 := ⟨_, rfl⟩
  obtain ⟨sy, hsy⟩ : ∃ s, s = y.1 := ⟨_, rfl⟩
  have hal := below_alloc2 w (.cells #[.bool sx, .slice pa ka ca, .slice pb kb cb] 24) (.cells #[.bool sy, .slice pc kc cc, .slice pd kd cd] 24)
  have hV := (Var3.alloc w (x := .bool sx) (y := .slice pa ka ca) (z := .slice pb kb cb) 24 trivial trivial trivial).below ((Below.refl _ _).alloc (Nat.le_refl _) (.cells #[.bool sy, .slice pc kc cc, .slice pd kd cd] 24))
  have hV2 := Var3.alloc2 w (.cells #[.bool sx, .slice pa ka ca, .slice pb kb cb] 24) (x := .bool sy) (y := .slice pc kc cc) (z := .slice pd kd cd) 24 trivial trivial trivial
  rw [← hsx] at HX ⊢
  rw [← hsy] at HY ⊢
  clear hsx hsy
  have HX0 := hid (HX.out.below hal)
  have HY0 := hid (HY.out.below hal)
  have HT0 := hid (ht.below hal)
  have HB := hid hal
  have HVx := hid hV
  have HVy := hid hV2
  clear HX HY ht hal hV hV2
  obtain ⟨g1, hg1⟩ : ∃ g, g = mulc x y := ⟨_, rfl⟩
  obtain ⟨r1, hr1⟩ : ∃ g, g = mult x y := ⟨_, rfl⟩
  obtain ⟨g2, hg2⟩ : ∃ g, g = divc x y := ⟨_, rfl⟩
  obtain ⟨r2, hr2⟩ : ∃ g, g = divt x y := ⟨_, rfl⟩
  have HI1 := hid (fun (W : World) (v u : Value) (hv : FNorm W v r1) (hu : FNorm W u r1) => Is_same v u g1 r1 W hv hu (by rw [hr1, hg1]; exact resT_ok (IsFr.mul (IsFr.fr x).pos (IsFr.fr y).pos) (fun h => (ncode_zero h).2.2.2)) (by rw [hr1, hg1]; exact resT_no))
  have HI2 := hid (fun (W : World) (v u : Value) (hv : FNorm W v r2) (hu : FNorm W u r2) => Is_same v u g2 r2 W hv hu (by rw [hr2, hg2]; exact resT_ok2 (div_ok x y)) (by rw [hr2, hg2]; exact resT_no))
  have HN1 := hid (fun (W : World) (v u : Value) (h : NRep W v x) (hy : NRep W u y) (ht : TabOk W) => (nMul_any v _ _ _ u _ _ _ W h hy ht).mono (R' := fun e w' => Below W.heap.size W w' ∧ URF w' e g1 r1) fun _ _ hR => ⟨hR.1, by rw [hg1, hr1]; exact hR.2.uniF⟩)
  have HN2 := hid (fun (W : World) (v u : Value) (h : NRep W v x) (hy : NRep W u y) (ht : TabOk W) => (nDiv_any v _ _ _ u _ _ _ W h hy ht).mono (R' := fun e w' => Below W.heap.size W w' ∧ URF w' e g2 r2) fun _ _ hR => ⟨hR.1, by rw [hg2, hr2]; exact hR.2.uniF⟩)
  have HR1 := hid (fun (W : World) (v u : Value) (h : NRep W v x) (hy : NRep W u y) => rMul_u v u x y W h hy)
  have HR2 := hid (fun (W : World) (v u : Value) (h : NRep W v x) (hy : NRep W u y) => rQuo_u v u x y W h hy)
  rw [← hg1, ← hr1] at HR1
  rw [← hg2, ← hr2] at HR2
  clear hg1 hr1 hg2 hr2
  go_enter Tryd.func8, Tryd.ntmps8
  go_upto_region 1 with fail
  generalize (w.alloc (.cells #[.bool sx, .slice pa ka ca, .slice pb kb cb] 24)).alloc (.cells #[.bool sy, .slice pc kc cc, .slice pd kd cd] 24) = W0 at *
  obtain ⟨a0, a1, a2, _⟩ := HVx.out.cells
  obtain ⟨b0, b1, b2, _⟩ := HVy.out.cells
  go_wp2_with fail
  refine (HN1.out _ _ _ HX0.out HY0.out HT0.out).mono ?_
  rintro e w1 ⟨hB1, sn1, pn1, kn1, cn1, qn1, ln1, dn1, rfl, hF⟩
  clear a0 a1 a2 b0 b1 b2
  go_upto_region 2 with fail
  have hal := (Below.refl w1.heap.size w1).alloc (Nat.le_refl _) (.cells #[.bool sn1, .slice pn1 kn1 cn1, .slice qn1 ln1 dn1] 24)
  have hV := Var3.alloc w1 (x := .bool sn1) (y := .slice pn1 kn1 cn1) (z := .slice qn1 ln1 dn1) 24 trivial trivial trivial
  have hst := held_any hB1 hal
  have HF1 := hid (hF.out.below hal)
  clear hB1 hal hF
  generalize w1.alloc (.cells #[.bool sn1, .slice pn1 kn1 cn1, .slice qn1 ln1 dn1] 24) = V1 at *
  generalize w1.heap.size = B1 at *
  replace HVx := hid (HVx.out.below hst)
  replace HVy := hid (HVy.out.below hst)
  replace HX0 := hid (HX0.out.below hst)
  replace HY0 := hid (HY0.out.below hst)
  replace HT0 := hid (HT0.out.below hst)
  replace HB := hid (HB.out.trans (hst.mono HB.out.size))
  have HV1 := hid hV
  clear hst hV
  obtain ⟨a0, a1, a2, _⟩ := HVx.out.cells
  obtain ⟨b0, b1, b2, _⟩ := HVy.out.cells
  go_wp2_with fail
  refine (HN2.out _ _ _ HX0.out HY0.out HT0.out).mono ?_
  rintro e w2 ⟨hB1, sn2, pn2, kn2, cn2, qn2, ln2, dn2, rfl, hF⟩
  clear a0 a1 a2 b0 b1 b2
  go_upto_region 3 with fail
  have hal := (Below.refl w2.heap.size w2).alloc (Nat.le_refl _) (.cells #[.bool sn2, .slice pn2 kn2 cn2, .slice qn2 ln2 dn2] 24)
  have hV := Var3.alloc w2 (x := .bool sn2) (y := .slice pn2 kn2 cn2) (z := .slice qn2 ln2 dn2) 24 trivial trivial trivial
  have hst := held_any hB1 hal
  have HF2 := hid (hF.out.below hal)
  clear hB1 hal hF
  generalize w2.alloc (.cells #[.bool sn2, .slice pn2 kn2 cn2, .slice qn2 ln2 dn2] 24) = V2 at *
  generalize w2.heap.size = B2 at *
  replace HVx := hid (HVx.out.below hst)
  replace HVy := hid (HVy.out.below hst)
  replace HX0 := hid (HX0.out.below hst)
  replace HY0 := hid (HY0.out.below hst)
  replace HT0 := hid (HT0.out.below hst)
  replace HV1 := hid (HV1.out.below hst)
  replace HF1 := hid (HF1.out.below hst)
  replace HB := hid (HB.out.trans (hst.mono HB.out.size))
  have HV2 := hid hV
  clear hst hV
  obtain ⟨a0, a1, a2, _⟩ := HVx.out.cells
  obtain ⟨b0, b1, b2, _⟩ := HVy.out.cells
  go_wp2_with fail
  refine (HR1.out _ _ _ HX0.out HY0.out).mono ?_
  rintro e w3 ⟨hB1, sn3, pn3, kn3, cn3, qn3, ln3, dn3, rfl, hF⟩
  clear a0 a1 a2 b0 b1 b2
  go_upto_region 4 with fail
  have hal := (Below.refl w3.heap.size w3).alloc (Nat.le_refl _) (.cells #[.bool sn3, .slice pn3 kn3 cn3, .slice qn3 ln3 dn3] 24)
  have hV := Var3.alloc w3 (x := .bool sn3) (y := .slice pn3 kn3 cn3) (z := .slice qn3 ln3 dn3) 24 trivial trivial trivial
  have hst := held_any hB1 hal
  have HF3 := hid (hF.out.below hal)
  clear hB1 hal hF
  generalize w3.alloc (.cells #[.bool sn3, .slice pn3 kn3 cn3, .slice qn3 ln3 dn3] 24) = V3 at *
  generalize w3.heap.size = B3 at *
  replace HVx := hid (HVx.out.below hst)
  replace HVy := hid (HVy.out.below hst)
  replace HX0 := hid (HX0.out.below hst)
  replace HY0 := hid (HY0.out.below hst)
  replace HT0 := hid (HT0.out.below hst)
  replace HV1 := hid (HV1.out.below hst)
  replace HF1 := hid (HF1.out.below hst)
  replace HV2 := hid (HV2.out.below hst)
  replace HF2 := hid (HF2.out.below hst)
  replace HB := hid (HB.out.trans (hst.mono HB.out.size))
  have HV3 := hid hV
  clear hst hV
  obtain ⟨a0, a1, a2, _⟩ := HVx.out.cells
  obtain ⟨b0, b1, b2, _⟩ := HVy.out.cells
  go_wp2_with fail
  refine (HR2.out _ _ _ HX0.out HY0.out).mono ?_
  rintro e w4 ⟨hB1, sn4, pn4, kn4, cn4, qn4, ln4, dn4, rfl, hF⟩
  clear a0 a1 a2 b0 b1 b2
  go_upto_region 5 with fail
  have hal := (Below.refl w4.heap.size w4).alloc (Nat.le_refl _) (.cells #[.bool sn4, .slice pn4 kn4 cn4, .slice qn4 ln4 dn4] 24)
  have hV := Var3.alloc w4 (x := .bool sn4) (y := .slice pn4 kn4 cn4) (z := .slice qn4 ln4 dn4) 24 trivial trivial trivial
  have hst := held_any hB1 hal
  have HF4 := hid (hF.out.below hal)
  clear hB1 hal hF
  generalize w4.alloc (.cells #[.bool sn4, .slice pn4 kn4 cn4, .slice qn4 ln4 dn4] 24) = V4 at *
  generalize w4.heap.size = B4 at *
  replace HVx := hid (HVx.out.below hst)
  replace HVy := hid (HVy.out.below hst)
  replace HX0 := hid (HX0.out.below hst)
  replace HY0 := hid (HY0.out.below hst)
  replace HT0 := hid (HT0.out.below hst)
  replace HV1 := hid (HV1.out.below hst)
  replace HF1 := hid (HF1.out.below hst)
  replace HV2 := hid (HV2.out.below hst)
  replace HF2 := hid (HF2.out.below hst)
  replace HV3 := hid (HV3.out.below hst)
  replace HF3 := hid (HF3.out.below hst)
  replace HB := hid (HB.out.trans (hst.mono HB.out.size))
  have HV4 := hid hV
  clear hst hV
  obtain ⟨a0, a1, a2, _⟩ := HV1.out.cells
  obtain ⟨b0, b1, b2, _⟩ := HV3.out.cells
  go_wp2_with fail
  refine (HI1.out _ _ _ HF1.out HF3.out).mono ?_
  rintro e w5 ⟨rfl, hst⟩
  clear a0 a1 a2 b0 b1 b2
  replace HT0 := hid (HT0.out.below hst)
  replace HV1 := hid (HV1.out.below hst)
  replace HF1 := hid (HF1.out.below hst)
  replace HV2 := hid (HV2.out.below hst)
  replace HF2 := hid (HF2.out.below hst)
  replace HV3 := hid (HV3.out.below hst)
  replace HF3 := hid (HF3.out.below hst)
  replace HV4 := hid (HV4.out.below hst)
  replace HF4 := hid (HF4.out.below hst)
  replace HB := hid (HB.out.trans (hst.mono HB.out.size))
  clear hst
  obtain ⟨a0, a1, a2, _⟩ := HV2.out.cells
  obtain ⟨b0, b1, b2, _⟩ := HV4.out.cells
  go_wp2_with fail
  refine (HI2.out _ _ _ HF2.out HF4.out).mono ?_
  rintro e w6 ⟨rfl, hst⟩
  clear a0 a1 a2 b0 b1 b2
  replace HT0 := hid (HT0.out.below hst)
  replace HB := hid (HB.out.trans (hst.mono HB.out.size))
  clear hst
  have HAw := hid (awake_any w6 HT0.out)
  go_wp2_with fail
  refine HAw.out.mono ?_
  rintro e w7 ⟨rfl, hst⟩
  have HZ := hid (HB.out.trans (hst.mono HB.out.size))
  clear hst
  go_wp2_with fail
  go_ret
  exact ⟨rfl, HZ.out⟩
end Go.Proofs.YtdinpeglclkjhaaDoor
