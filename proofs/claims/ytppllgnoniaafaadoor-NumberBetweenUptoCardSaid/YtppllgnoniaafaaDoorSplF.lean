/- The simplest number between two, in the program: Simplest. -/
import Derived.Test.YtppllgnoniaafaaDoorSplL
import Derived.Test.YtppllgnoniaafaaDoorSplS
namespace Go.Proofs.YtppllgnoniaafaaDoor
open Go.RowKit Dg

theorem fpl_bd {x y : Bool × Nat × Nat} (h : fle x y) (hx : 0 < x.2.2) (hy : 0 < y.2.2) (zy : y.2.1 = 0 → y.1 = false) (bn : x.2.1 < W32 ^ 64) (bd : x.2.2 < W32 ^ 64) (bm : y.2.1 < W32 ^ 64) (be : y.2.2 < W32 ^ 64) :
    (fpl x y).2.1 < W32 ^ 1000000000 ∧ (fpl x y).2.2 < W32 ^ 1000000000 := by
  unfold fpl
  split
  · rename_i h0
    obtain ⟨_, k2, _, k4, k5⟩ := fpl_pos h hy h0
    have hl := spl_le k2 hx hy k5
    exact ⟨lt_big (Nat.lt_of_le_of_lt hl.1 bn) (by omega), lt_big (Nat.lt_of_le_of_lt hl.2 bd) (by omega)⟩
  · split
    · rename_i h0
      obtain ⟨_, k2, _, k4, k5⟩ := fpl_neg h hx zy h0
      have hl := spl_le k2 hy hx k5
      exact ⟨lt_big (Nat.lt_of_le_of_lt hl.1 bm) (by omega), lt_big (Nat.lt_of_le_of_lt hl.2 be) (by omega)⟩
    · exact ⟨lt_big (a := 1) (by decide) (by omega), lt_big (a := 1) (by decide) (by omega)⟩
theorem FSimp_ret {W : World} {B : Nat} {x y z ev : Value} {tm : Array Value} {R : Ending → World → Prop} (h2 : tm[4]?.getD undef = .pointer (some ⟨B, 0, none⟩)) (h3 : tm[5]?.getD undef = ev) (hV : Var3 W B x y z)
    (hR : R (.returned (.tuple #[.agg #[x, y, z], ev])) W) : bodyPost Tryd.prog Tryd.f58 R .ret { tmps := tm, defers := [] } W := by
  obtain ⟨c0, c1, c2, _, _, _⟩ := hV.cells
  exact bodyPost_ret (v := .tuple #[.agg #[x, y, z], ev]) (by simp [results, Tryd.results58, go_sem, h2, h3, c0, c1, c2]) rfl hR

set_option maxHeartbeats 16000000 in
set_option maxRecDepth 100000 in
theorem FracSimplest_any (va vb : Value) (x y : Bool × Nat × Nat) (w : World) (ha : FNorm w va x) (hb : FNorm w vb y) (bn : x.2.1 < W32 ^ 64) (bd : x.2.2 < W32 ^ 64) (bm : y.2.1 < W32 ^ 64) (be : y.2.2 < W32 ^ 64)
    (px : 0 < x.2.2) (py : 0 < y.2.2) (zx : x.2.1 = 0 → x.1 = false) (zy : y.2.1 = 0 → y.1 = false) (ht : TabOk w) :
    Calls Tryd.prog 58 #[va, vb] w fun e w' => Below w.heap.size w w' ∧ FRes w' e (if 0 < fcmp x y then 11 else 0) (fpl x y) := by
  have HCm := hid (fun (W : World) (hW : Below w.heap.size w W) => FracCompare_any va vb x.1 x.2.1 x.2.2 y.1 y.2.1 y.2.2 W (FNorm.below ha hW) (FNorm.below hb hW) (lt_4m bn (by omega)) (lt_4m bd (by omega)) (lt_4m bm (by omega)) (lt_4m be (by omega)) px py zx zy)
  have HS1 := hid (fun (W : World) (hW : Below w.heap.size w W) => Sign_any va x.1 x.2.1 x.2.2 W (FNorm.below ha hW))
  have HS2 := hid (fun (W : World) (hW : Below w.heap.size w W) => Sign_any vb y.1 y.2.1 y.2.2 W (FNorm.below hb hW))
  have HO1 := hid (fun (W : World) (hW : Below w.heap.size w W) => fopen (t := fneg x) (Neg_any va x.1 x.2.1 x.2.2 W (FNorm.below ha hW)))
  have HO2 := hid (fun (W : World) (hW : Below w.heap.size w W) => fopen (t := fneg y) (Neg_any vb y.1 y.2.1 y.2.2 W (FNorm.below hb hW)))
  have hfp : fpl x y = if 0 < sgn x.1 x.2.1 then fspl x y else if sgn y.1 y.2.1 < 0 then fneg (fspl (fneg y) (fneg x)) else (false, 0, 1) := rfl
  have HLE := hid (fun (h : ¬ 0 < fcmp x y) => fle_of h)
  obtain ⟨A, hA1, hA2⟩ : ∃ A : Nat, 64 ≤ A ∧ A ≤ 300 := ⟨64, by omega, by omega⟩
  have cn := lt_pow bn hA1
  have cd := lt_pow bd hA1
  have cm := lt_pow bm hA1
  have ce := lt_pow be hA1
  have HP := hid (fun (hl : fle x y) (h0 : 0 < sgn x.1 x.2.1) (W : World) (hW : Below w.heap.size w W) => (show Calls Tryd.prog 96 #[va, vb] W fun e w' => ∃ sg pa ka ca pb kb cb, e = .returned (.agg #[.bool sg, .slice pa ka ca, .slice pb kb cb]) ∧ Hid (FNorm w' (.agg #[.bool sg, .slice pa ka ca, .slice pb kb cb]) (fspl x y)) ∧ Below W.heap.size W w' by
    obtain ⟨k1, k2, k3, k4, k5⟩ := fpl_pos hl py h0
    have hx := FNorm.below ha hW
    have hy := FNorm.below hb hW
    unfold FNorm at hx hy
    rw [k1] at hx
    rw [k3] at hy
    exact fopen (t := fspl x y) (simplest_any va vb x.2.1 x.2.2 y.2.1 y.2.2 A W hx hy cn cd cm ce (by omega) hA2 k2 px py k5 (ht.below hW))))
  have HQ := hid (fun (hl : fle x y) (h0 : sgn y.1 y.2.1 < 0) (W : World) (v1 v2 : Value) (q1 : FNorm W v1 (fneg y)) (q2 : FNorm W v2 (fneg x)) (hW : Below w.heap.size w W) => (show Calls Tryd.prog 96 #[v1, v2] W fun e w' => ∃ sg pa ka ca pb kb cb, e = .returned (.agg #[.bool sg, .slice pa ka ca, .slice pb kb cb]) ∧ Hid (FNorm w' (.agg #[.bool sg, .slice pa ka ca, .slice pb kb cb]) (fspl (fneg y) (fneg x))) ∧ Below W.heap.size W w' by
    obtain ⟨k1, k2, k3, k4, k5⟩ := fpl_neg hl px zy h0
    unfold FNorm at q1 q2
    rw [k1] at q1
    rw [k3] at q2
    exact fopen (t := fspl (fneg y) (fneg x)) (simplest_any v1 v2 y.2.1 y.2.2 x.2.1 x.2.2 A W q1 q2 cm ce cn cd (by omega) hA2 k2 py px k5 (ht.below hW))))
  have HO3 := hid (fun (W : World) (v1 : Value) (q1 : FNorm W v1 (fspl (fneg y) (fneg x))) => fopen (t := fneg (fspl (fneg y) (fneg x))) (Neg_any v1 _ _ _ W q1))
  have HFI := hid (fun (W : World) => fopen (t := (false, 0, 1)) (FracFromInt_any 0 W (by decide) (by decide)))
  clear bn bd bm be px py zx zy ht hA1 hA2 cn cd cm ce
  obtain ⟨t, ht⟩ : ∃ t, t = fpl x y := ⟨_, rfl⟩
  rw [← ht] at hfp ⊢
  clear ht
  obtain ⟨fc, hfc⟩ : ∃ t, t = fcmp x y := ⟨_, rfl⟩
  rw [← hfc] at HLE ⊢
  rw [show fcmp (x.1, x.2.1, x.2.2) (y.1, y.2.1, y.2.2) = fc from hfc.symm] at HCm
  clear hfc
  obtain ⟨cc, hcc⟩ : ∃ c : Int, c = if 0 < fc then 11 else 0 := ⟨_, rfl⟩
  rw [← hcc]
  obtain ⟨g1, hg1⟩ : ∃ t, t = sgn x.1 x.2.1 := ⟨_, rfl⟩
  obtain ⟨g2, hg2⟩ : ∃ t, t = sgn y.1 y.2.1 := ⟨_, rfl⟩
  rw [← hg1] at HS1 HP hfp
  rw [← hg2] at HS2 HQ hfp
  clear hg1 hg2
  obtain ⟨t1, ht1⟩ : ∃ t, t = fspl x y := ⟨_, rfl⟩
  obtain ⟨t2, ht2⟩ : ∃ t, t = fspl (fneg y) (fneg x) := ⟨_, rfl⟩
  obtain ⟨t3, ht3⟩ : ∃ t, t = fneg t2 := ⟨_, rfl⟩
  rw [← ht1] at HP hfp
  rw [← ht2] at HQ HO3 hfp
  rw [← ht3] at HO3 hfp
  clear ht1 ht2 ht3
  obtain ⟨_, _, rfl, ⟨p1, k1, c1, rfl, _⟩, ⟨p2, k2, c2, rfl, _⟩⟩ := ha
  obtain ⟨_, _, rfl, ⟨p3, k3, c3, rfl, _⟩, ⟨p4, k4, c4, rfl, _⟩⟩ := hb
  obtain ⟨sx, hsx⟩ : ∃ s, s = x.1 := ⟨_, rfl⟩
  obtain ⟨sy, hsy⟩ : ∃ s, s = y.1 := ⟨_, rfl⟩
  rw [← hsx] at HCm HS1 HO1 HP
  rw [← hsy] at HCm HS2 HO2 HP
  rw [← hsx, ← hsy]
  clear hsx hsy
  go_enter Tryd.func58, Tryd.ntmps58
  go_upto_region 1 with fail
  have hVa := ((Var3.alloc w (x := .bool sx) (y := .slice p1 k1 c1) (z := .slice p2 k2 c2) 56 trivial trivial trivial).below ((Below.refl _ _).alloc (Nat.le_refl _) (.cells #[.bool sy, .slice p3 k3 c3, .slice p4 k4 c4] 56))).below ((Below.refl _ _).alloc (Nat.le_refl _) (.cells #[.bool false, .slice none 0 0, .slice none 0 0] 56))
  have hVb := (Var3.alloc2 w (.cells #[.bool sx, .slice p1 k1 c1, .slice p2 k2 c2] 56) (x := .bool sy) (y := .slice p3 k3 c3) (z := .slice p4 k4 c4) 56 trivial trivial trivial).below ((Below.refl _ _).alloc (Nat.le_refl _) (.cells #[.bool false, .slice none 0 0, .slice none 0 0] 56))
  have hVr := Var3.alloc3 w (.cells #[.bool sx, .slice p1 k1 c1, .slice p2 k2 c2] 56) (.cells #[.bool sy, .slice p3 k3 c3, .slice p4 k4 c4] 56) (x := .bool false) (y := .slice none 0 0) (z := .slice none 0 0) 56 trivial trivial trivial
  have hB0 := below_alloc3 w (.cells #[.bool sx, .slice p1 k1 c1, .slice p2 k2 c2] 56) (.cells #[.bool sy, .slice p3 k3 c3, .slice p4 k4 c4] 56) (.cells #[.bool false, .slice none 0 0, .slice none 0 0] 56)
  generalize ((w.alloc (.cells #[.bool sx, .slice p1 k1 c1, .slice p2 k2 c2] 56)).alloc (.cells #[.bool sy, .slice p3 k3 c3, .slice p4 k4 c4] 56)).alloc (.cells #[.bool false, .slice none 0 0, .slice none 0 0] 56) = W0 at *
  have HV : Hid (Var3 W0 (w.heap.size + 1 + 1) (.bool false) (.slice none 0 0) (.slice none 0 0) ∧ Below w.heap.size w W0) := hid ⟨hVr, hB0⟩
  have HVa := hid hVa
  have HVb := hid hVb
  clear hVa hVb hVr hB0
  obtain ⟨a0, a1, a2, _⟩ := HVa.out.cells
  obtain ⟨b0, b1, b2, _⟩ := HVb.out.cells
  go_wp2_with fail
  refine (HCm.out _ HV.out.2).mono ?_
  rintro e w1 ⟨rfl, hst⟩
  clear a0 a1 a2 b0 b1 b2 HCm
  replace HVa := hid (HVa.out.below hst)
  replace HVb := hid (HVb.out.below hst)
  replace HV := hid (And.intro (HV.out.1.below hst) (HV.out.2.trans (hst.mono HV.out.2.size)))
  clear hst
  by_cases h0 : 0 < fc
  · have d1 : decide (0 < fc) = true := decide_eq_true h0
    rw [if_pos h0] at hcc
    subst hcc
    obtain ⟨x0, x1, x2, y0, y1, y2⟩ := HV.out.1.cells
    clear h0 HLE hfp
    go_wp2_with fail
    exact FSimp_ret rfl rfl (HV.out.1.store trivial trivial trivial) ⟨below_set3 HV.out.2 (by show w.heap.size ≤ w.heap.size + 1 + 1; omega), .inl ⟨by decide, rfl⟩⟩
  · have d1 : decide (0 < fc) = false := decide_eq_false h0
    rw [if_neg h0] at hcc
    subst hcc
    have hle := HLE.out (by omega)
    replace HP := hid (HP.out hle)
    replace HQ := hid (HQ.out hle)
    clear h0 hle HLE
    obtain ⟨a0, a1, a2, _⟩ := HVa.out.cells
    go_wp2_with fail
    refine (HS1.out _ HV.out.2).mono ?_
    rintro e w2 ⟨rfl, hst⟩
    clear a0 a1 a2 HS1 d1
    replace HVa := hid (HVa.out.below hst)
    replace HVb := hid (HVb.out.below hst)
    replace HV := hid (And.intro (HV.out.1.below hst) (HV.out.2.trans (hst.mono HV.out.2.size)))
    clear hst
    by_cases h1 : 0 < g1
    · have d2 : decide (0 < g1) = true := decide_eq_true h1
      rw [if_pos h1] at hfp
      subst hfp
      replace HP := hid (HP.out h1)
      clear h1
      obtain ⟨a0, a1, a2, _⟩ := HVa.out.cells
      obtain ⟨b0, b1, b2, _⟩ := HVb.out.cells
      go_wp2_with fail
      refine (HP.out _ HV.out.2).mono ?_
      rintro e w3 ⟨sg, pa, ka, ca, pb, kb, cb, rfl, HF, hst⟩
      clear a0 a1 a2 b0 b1 b2 d2
      replace HVa := hid (HVa.out.below hst)
      replace HVb := hid (HVb.out.below hst)
      replace HV := hid (And.intro (HV.out.1.below hst) (HV.out.2.trans (hst.mono HV.out.2.size)))
      clear hst
      obtain ⟨x0, x1, x2, y0, y1, y2⟩ := HV.out.1.cells
      go_wp2_with fail
      exact FSimp_ret rfl rfl (HV.out.1.store trivial trivial trivial) ⟨below_set3 HV.out.2 (by show w.heap.size ≤ w.heap.size + 1 + 1; omega), .inr ⟨rfl, _, _, _, _, _, _, _, rfl, hid (HF.out.store3 HV.out.1 _ _ _)⟩⟩
    · have d2 : decide (0 < g1) = false := decide_eq_false h1
      rw [if_neg h1] at hfp
      clear HP h1
      obtain ⟨b0, b1, b2, _⟩ := HVb.out.cells
      go_wp2_with fail
      refine (HS2.out _ HV.out.2).mono ?_
      rintro e w3 ⟨rfl, hst⟩
      clear b0 b1 b2 HS2 d2
      replace HVa := hid (HVa.out.below hst)
      replace HVb := hid (HVb.out.below hst)
      replace HV := hid (And.intro (HV.out.1.below hst) (HV.out.2.trans (hst.mono HV.out.2.size)))
      clear hst
      by_cases h2 : g2 < 0
      · have d3 : decide (g2 < 0) = true := decide_eq_true h2
        rw [if_pos h2] at hfp
        subst hfp
        replace HQ := hid (HQ.out h2)
        clear h2
        have hn2 : w.heap.size + 1 + 1 ≤ w3.heap.size := by obtain ⟨_, h0, _⟩ := HV.out.1; exact Nat.le_of_lt (Array.getElem?_eq_some_iff.1 h0).1
        have HS : Hid (∀ w', Below (w.heap.size + 1 + 1) w3 w' → (w'.cell? ⟨w.heap.size, 0, none⟩ = some (.bool sx) ∧ w'.cell? ⟨w.heap.size, 1, none⟩ = some (.slice p1 k1 c1) ∧ w'.cell? ⟨w.heap.size, 2, none⟩ = some (.slice p2 k2 c2) ∧ w'.cell? ⟨w.heap.size + 1, 0, none⟩ = some (.bool sy) ∧ w'.cell? ⟨w.heap.size + 1, 1, none⟩ = some (.slice p3 k3 c3) ∧ w'.cell? ⟨w.heap.size + 1, 2, none⟩ = some (.slice p4 k4 c4) ∧ Hid (Below (w.heap.size + 1 + 1) w3 w'))) :=
          hid fun w' hb => ⟨(bcellN hb _ _ (by omega)).trans HVa.out.cells.1, (bcellN hb _ _ (by omega)).trans HVa.out.cells.2.1, (bcellN hb _ _ (by omega)).trans HVa.out.cells.2.2.1, (bcellN hb _ _ (by omega)).trans HVb.out.cells.1, (bcellN hb _ _ (by omega)).trans HVb.out.cells.2.1, (bcellN hb _ _ (by omega)).trans HVb.out.cells.2.2.1, hid hb⟩
        have HBz := hid HV.out.2
        go_wp2_with fail
        go_region_held3 (fun w' => w'.cell? ⟨w.heap.size, 0, none⟩ = some (.bool sx) ∧ w'.cell? ⟨w.heap.size, 1, none⟩ = some (.slice p1 k1 c1) ∧ w'.cell? ⟨w.heap.size, 2, none⟩ = some (.slice p2 k2 c2) ∧ w'.cell? ⟨w.heap.size + 1, 0, none⟩ = some (.bool sy) ∧ w'.cell? ⟨w.heap.size + 1, 1, none⟩ = some (.slice p3 k3 c3) ∧ w'.cell? ⟨w.heap.size + 1, 2, none⟩ = some (.slice p4 k4 c4) ∧ Hid (Below (w.heap.size + 1 + 1) w3 w'))
          (first | exact HS.out _ (Below.refl _ _).drew | (exact HS.out _ (by assumption)) | exact HS.out _ (below_set3 (by assumption) (Nat.le_refl _)))
          (first
            | (go_at_call_of 76 k3; have hKo := held6 (N := w.heap.size + 1 + 1) (W0 := w3) (by assumption); refine (HO2.out _ (HBz.out.trans (hKo.mono (by omega)))).mono ?_; rintro e wa ⟨s5, p5, k5, c5, p6, k6, c6, rfl, hQ1, hBa⟩; have hKa := held_any (by first | assumption | exact (Below.refl _ _).drew) hBa; have hKa2 := below_pre hKa hn2)
            | (go_at_call_of 76 k1; have hKo := held6 (N := w.heap.size + 1 + 1) (W0 := w3) (by assumption); refine (HO1.out _ (HBz.out.trans (hKo.mono (by omega)))).mono ?_; rintro e wb ⟨s7, p7, k7, c7, p8, k8, c8, rfl, hQ2, hBb⟩; have hKb := held_any (by first | assumption | exact (Below.refl _ _).drew) hBb; have hKb2 := below_pre hKb hn2)
            | (go_at_call 96; refine (HQ.out _ _ _ (by first | exact hQ1.out | exact hQ1.out.below hBb) (by first | exact hQ2.out | exact hQ2.out.below hBa) (HBz.out.trans (hKb.mono HBz.out.size))).mono ?_; rintro e wc ⟨s9, p9, k9, c9, p10, k10, c10, rfl, hQ3, hBc⟩; have hKc := held_any hKb hBc; have hKc2 := below_pre hKc hn2)
            | (go_at_call_of 76 k9; refine (HO3.out _ _ hQ3.out).mono ?_; rintro e wd ⟨sg, pa, ka, ca, pb, kb, cb, rfl, HF, hBd⟩; have hKd := held_any hKc hBd; have hKd2 := below_pre hKd hn2; obtain ⟨x0, x1, x2, y0, y1, y2⟩ := (HV.out.1.below hKd).cells))
        all_goals
          rename_i hHeld
          clear hHeld
          have hst := hKd
          replace HVa := hid (HVa.out.below hst)
          replace HVb := hid (HVb.out.below hst)
          replace HV := hid (And.intro (HV.out.1.below hst) (HV.out.2.trans (hst.mono HV.out.2.size)))
          clear hst
          go_wp2_with fail
          exact FSimp_ret rfl rfl (HV.out.1.store trivial trivial trivial) ⟨below_set3 HV.out.2 (by show w.heap.size ≤ w.heap.size + 1 + 1; omega), .inr ⟨rfl, _, _, _, _, _, _, _, rfl, hid (HF.out.store3 HV.out.1 _ _ _)⟩⟩
      · have d3 : decide (g2 < 0) = false := decide_eq_false h2
        rw [if_neg h2] at hfp
        subst hfp
        clear HQ h2
        go_wp2_with fail
        refine (HFI.out _).mono ?_
        rintro e w4 ⟨sg, pa, ka, ca, pb, kb, cb, rfl, HF, hst⟩
        replace HVa := hid (HVa.out.below hst)
        replace HVb := hid (HVb.out.below hst)
        replace HV := hid (And.intro (HV.out.1.below hst) (HV.out.2.trans (hst.mono HV.out.2.size)))
        clear hst
        obtain ⟨x0, x1, x2, y0, y1, y2⟩ := HV.out.1.cells
        go_wp2_with fail
        exact FSimp_ret rfl rfl (HV.out.1.store trivial trivial trivial) ⟨below_set3 HV.out.2 (by show w.heap.size ≤ w.heap.size + 1 + 1; omega), .inr ⟨rfl, _, _, _, _, _, _, _, rfl, hid (HF.out.store3 HV.out.1 _ _ _)⟩⟩

theorem nSimp_ret {W : World} {B : Nat} {x y z ev : Value} {tm : Array Value} {R : Ending → World → Prop} (h2 : tm[4]?.getD undef = .pointer (some ⟨B, 0, none⟩)) (h3 : tm[5]?.getD undef = ev) (hV : Var3 W B x y z)
    (hR : R (.returned (.tuple #[.agg #[x, y, z], ev])) W) : bodyPost Tryd.prog Tryd.f26 R .ret { tmps := tm, defers := [] } W := by
  obtain ⟨c0, c1, c2, _, _, _⟩ := hV.cells
  exact bodyPost_ret (v := .tuple #[.agg #[x, y, z], ev]) (by simp [results, Tryd.results26, go_sem, h2, h3, c0, c1, c2]) rfl hR

theorem enterFSimp (args : Array Value) (w : World) : (callFunc 58 args).run Tryd.prog w = .ok (.enter 58 args) w := call_enter Tryd.func58 (by kernel_rfl) rfl args w

set_option maxHeartbeats 2000000 in
set_option maxRecDepth 100000 in
theorem nSimplest_any (v : Value) (s : Bool) (n d : Nat) (y : Value) (s' : Bool) (n' d' : Nat) (w : World) (h : ARep w v s n d) (hy : ARep w y s' n' d') (ht : TabOk w) :
    Calls Tryd.prog 26 #[v, y] w fun e w' => Below w.heap.size w w' ∧ FRes w' e (ncode n d n' d' (if 0 < fcmp (frac s n (den1 d)) (frac s' n' (den1 d')) then 11 else 0) (fpl (frac s n (den1 d)) (frac s' n' (den1 d')))) (outF (fpl (frac s n (den1 d)) (frac s' n' (den1 d')))) := by
  have hA := hid h
  have hY := hid hy
  obtain ⟨vn, vd, rfl, ⟨p1, k1, c1, rfl, _⟩, ⟨p2, k2, c2, rfl, _⟩⟩ := h
  obtain ⟨un, ud, rfl, ⟨p3, k3, c3, rfl, _⟩, ⟨p4, k4, c4, rfl, _⟩⟩ := hy
  have hcall : Hid (∀ W, ARep W (.agg #[.bool s, .slice p1 k1 c1, .slice p2 k2 c2]) s n d → ARep W (.agg #[.bool s', .slice p3 k3 c3, .slice p4 k4 c4]) s' n' d' → TabOk W →
      Calls Tryd.prog 57 #[.agg #[.bool s, .slice p1 k1 c1, .slice p2 k2 c2], .agg #[.bool s', .slice p3 k3 c3, .slice p4 k4 c4], .func (.func 58) #[] #[]] W fun e w' => Below W.heap.size W w' ∧ FRes w' e (ncode n d n' d' (if 0 < fcmp (frac s n (den1 d)) (frac s' n' (den1 d')) then 11 else 0) (fpl (frac s n (den1 d)) (frac s' n' (den1 d')))) (outF (fpl (frac s n (den1 d)) (frac s' n' (den1 d'))))) :=
    hid fun W h1 h2 h3 => binary_any _ #[] _ s n d _ s' n' d' _ _ W h1 h2 h3 enterFSimp
      (fun hL hL' W' v' u' hW hF hG => FracSimplest_any v' u' _ _ W' hF hG (large_bd hL).1 (large_bd hL).2 (large_bd hL').1 (large_bd hL').2 (gcd_den_pos n d) (gcd_den_pos n' d') (fun h => frac_zero_sign (den1_pos d) h) (fun h => frac_zero_sign (den1_pos d') h) (h3.below hW))
      (fun hL hL' hc => fpl_bd (fle_of (fun h0 => by rw [if_pos h0] at hc; exact absurd hc (by decide))) (gcd_den_pos n d) (gcd_den_pos n' d') (fun h => frac_zero_sign (den1_pos d') h) (large_bd hL).1 (large_bd hL).2 (large_bd hL').1 (large_bd hL').2)
  obtain ⟨U, hU⟩ : ∃ U, U = ncode n d n' d' (if 0 < fcmp (frac s n (den1 d)) (frac s' n' (den1 d')) then 11 else 0) (fpl (frac s n (den1 d)) (frac s' n' (den1 d'))) := ⟨_, rfl⟩
  obtain ⟨T, hT⟩ : ∃ T, T = outF (fpl (frac s n (den1 d)) (frac s' n' (den1 d'))) := ⟨_, rfl⟩
  rw [← hU, ← hT] at hcall ⊢
  clear hU hT
  have HT := hid ht
  clear ht
  go_enter Tryd.func26, Tryd.ntmps26
  go_upto_region 1 with fail
  have hK := below_alloc3 w (.cells #[.bool s, .slice p1 k1 c1, .slice p2 k2 c2] 24) (.cells #[.bool s', .slice p3 k3 c3, .slice p4 k4 c4] 24) (.cells #[.bool false, .slice none 0 0, .slice none 0 0] 24)
  have hVa := ((Var3.alloc w (x := .bool s) (y := .slice p1 k1 c1) (z := .slice p2 k2 c2) 24 trivial trivial trivial).below ((Below.refl _ _).alloc (Nat.le_refl _) (.cells #[.bool s', .slice p3 k3 c3, .slice p4 k4 c4] 24))).below ((Below.refl _ _).alloc (Nat.le_refl _) (.cells #[.bool false, .slice none 0 0, .slice none 0 0] 24))
  have hVb := (Var3.alloc2 w (.cells #[.bool s, .slice p1 k1 c1, .slice p2 k2 c2] 24) (x := .bool s') (y := .slice p3 k3 c3) (z := .slice p4 k4 c4) 24 trivial trivial trivial).below ((Below.refl _ _).alloc (Nat.le_refl _) (.cells #[.bool false, .slice none 0 0, .slice none 0 0] 24))
  have hVr := Var3.alloc3 w (.cells #[.bool s, .slice p1 k1 c1, .slice p2 k2 c2] 24) (.cells #[.bool s', .slice p3 k3 c3, .slice p4 k4 c4] 24) (x := .bool false) (y := .slice none 0 0) (z := .slice none 0 0) 24 trivial trivial trivial
  generalize ((w.alloc (.cells #[.bool s, .slice p1 k1 c1, .slice p2 k2 c2] 24)).alloc (.cells #[.bool s', .slice p3 k3 c3, .slice p4 k4 c4] 24)).alloc (.cells #[.bool false, .slice none 0 0, .slice none 0 0] 24) = W0 at *
  have HV : Hid (Var3 W0 (w.heap.size + 1 + 1) (.bool false) (.slice none 0 0) (.slice none 0 0) ∧ Below w.heap.size w W0) := hid ⟨hVr, hK⟩
  obtain ⟨x0, x1, x2, _⟩ := id hVa.cells
  obtain ⟨y0, y1, y2, _⟩ := id hVb.cells
  have hcl := hid (hcall.out W0 (hA.out.below hK) (hY.out.below hK) (HT.out.below hK))
  clear hVa hVb hVr hK hcall
  go_wp2_with fail
  refine hcl.out.mono ?_
  rintro e w3 ⟨hB3, hR3⟩
  have hV3 := HV.out.1.below hB3
  obtain ⟨z0, z1, z2, r0, r1, r2⟩ := id hV3.cells
  have HV3 := hid (And.intro hV3 (HV.out.2.trans (hB3.mono HV.out.2.size)))
  clear x0 x1 x2 y0 y1 y2 hcl HV hV3 hB3
  rcases hR3 with ⟨hc, rfl⟩ | ⟨hc, sg', pa', ka', ca', pb', kb', cb', rfl, hF3⟩
  · unfold zeroF
    go_wp2_with fail
    exact nSimp_ret rfl rfl (HV3.out.1.store trivial trivial trivial) ⟨below_set3 HV3.out.2 (by show w.heap.size ≤ w.heap.size + 1 + 1; omega), .inl ⟨hc, rfl⟩⟩
  · subst hc
    go_wp2_with fail
    exact nSimp_ret rfl rfl (HV3.out.1.store trivial trivial trivial) ⟨below_set3 HV3.out.2 (by show w.heap.size ≤ w.heap.size + 1 + 1; omega), .inr ⟨rfl, _, _, _, _, _, _, _, rfl, hid (hF3.out.store3 HV3.out.1 _ _ _)⟩⟩
end Go.Proofs.YtppllgnoniaafaaDoor
