/- The specification's Prod and Div. -/
import Derived.Test.YtdinpeglclkjhaaDoorRefV
namespace Go.Proofs.YtdinpeglclkjhaaDoor
open Go.RowKit Dg

set_option maxHeartbeats 8000000 in
set_option maxRecDepth 100000 in
theorem rProd_any (va vb : Value) (x y : Bool × Nat × Nat) (A : Nat) (w : World) (ha : QNorm w va x) (hb : QNorm w vb y)
    (hn1 : x.2.1 < B16 ^ A) (hd1 : x.2.2 < B16 ^ A) (hn2 : y.2.1 < B16 ^ A) (hd2 : y.2.2 < B16 ^ A) (hA : A ≤ 1000000) (h1 : 0 < x.2.2) (h2 : 0 < y.2.2) :
    Calls Tryd.prog 81 #[va, vb] w fun e w' => ∃ v', e = .returned v' ∧ QNorm w' v' (frac (x.1 != y.1) (x.2.1 * y.2.1) (x.2.2 * y.2.2)) ∧ Below w.heap.size w w' := by
  have HDa := hid (fun (W : World) (hW : Below w.heap.size w W) => den_any va x.1 x.2.1 x.2.2 W (ha.below hW))
  have HDb := hid (fun (W : World) (hW : Below w.heap.size w W) => den_any vb y.1 y.2.1 y.2.2 W (hb.below hW))
  rw [den1_self h1] at HDa
  rw [den1_self h2] at HDb
  have hD0 : 0 < x.2.2 * y.2.2 := Nat.mul_pos h1 h2
  have HX := hid (And.intro (mul_b (c := 2 * A) hn1 hn2 (by omega)) (mul_b (c := 2 * A) hd1 hd2 (by omega)))
  have hA2 : 2 * A ≤ 800000000 := by omega
  have HB := hid (And.intro (And.intro (b_big hn1 (by omega)) (b_big hd1 (by omega))) (And.intro (b_big hn2 (by omega)) (b_big hd2 (by omega))))
  obtain ⟨s1, hs1⟩ : ∃ s, s = x.1 := ⟨_, rfl⟩
  obtain ⟨s2, hs2⟩ : ∃ s, s = y.1 := ⟨_, rfl⟩
  have hNew := hid (fun (W : World) (vN vD : Value) (hN : Rep B16 W vN (x.2.1 * y.2.1)) (hD : Rep B16 W vD (x.2.2 * y.2.2)) => Make_open (x.1 != y.1) vN vD (x.2.1 * y.2.1) (x.2.2 * y.2.2) (2 * A) W hN hD HX.out.1 HX.out.2 hA2 hD0)
  clear hn1 hd1 hn2 hd2 h1 h2 hA hA2 hD0 HX
  obtain ⟨vn1, vd1, rfl, hrn1, hrd1⟩ := ha
  obtain ⟨vn2, vd2, rfl, hrn2, hrd2⟩ := hb
  have HR := hid (And.intro (And.intro hrn1 hrd1) (And.intro hrn2 hrd2))
  obtain ⟨p1, k1, c1, rfl, _, _, _⟩ := hrn1
  obtain ⟨p2, k2, c2, rfl, _, _, _⟩ := hrd1
  obtain ⟨p3, k3, c3, rfl, _, _, _⟩ := hrn2
  obtain ⟨p4, k4, c4, rfl, _, _, _⟩ := hrd2
  rw [← hs1, ← hs2] at hNew
  rw [← hs1] at HDa
  rw [← hs2] at HDb
  rw [← hs1, ← hs2]
  clear hs1 hs2
  obtain ⟨n1, hn1⟩ : ∃ n, n = x.2.1 := ⟨_, rfl⟩
  obtain ⟨d1, hd1⟩ : ∃ n, n = x.2.2 := ⟨_, rfl⟩
  obtain ⟨n2, hn2⟩ : ∃ n, n = y.2.1 := ⟨_, rfl⟩
  obtain ⟨d2, hd2⟩ : ∃ n, n = y.2.2 := ⟨_, rfl⟩
  simp only [← hn1, ← hd1, ← hn2, ← hd2] at *
  clear hn1 hd1 hn2 hd2
  obtain ⟨t, ht⟩ : ∃ t, t = frac (s1 != s2) (n1 * n2) (d1 * d2) := ⟨_, rfl⟩
  rw [← ht] at hNew ⊢
  clear ht
  go_enter Tryd.func81, Tryd.ntmps81
  go_wp2_with fail
  have hVa : Var3 (w.alloc (.cells #[.bool s1, .slice p1 k1 c1, .slice p2 k2 c2] 34)) w.heap.size (.bool s1) (.slice p1 k1 c1) (.slice p2 k2 c2) := Var3.alloc w 34 trivial trivial trivial
  have hVb := Var3.alloc2 w (.cells #[.bool s1, .slice p1 k1 c1, .slice p2 k2 c2] 34) (x := .bool s2) (y := .slice p3 k3 c3) (z := .slice p4 k4 c4) 34 trivial trivial trivial
  have hVr := Var3.alloc3 w (.cells #[.bool s1, .slice p1 k1 c1, .slice p2 k2 c2] 34) (.cells #[.bool s2, .slice p3 k3 c3, .slice p4 k4 c4] 34) (x := .bool false) (y := .slice none 0 0) (z := .slice none 0 0) 34 trivial trivial trivial
  have hB0 := below_alloc3 w (.cells #[.bool s1, .slice p1 k1 c1, .slice p2 k2 c2] 34) (.cells #[.bool s2, .slice p3 k3 c3, .slice p4 k4 c4] 34) (.cells #[.bool false, .slice none 0 0, .slice none 0 0] 34)
  have hVa' := (hVa.below ((Below.refl _ _).alloc (Nat.le_refl _) (.cells #[.bool s2, .slice p3 k3 c3, .slice p4 k4 c4] 34))).below ((Below.refl _ _).alloc (Nat.le_refl _) (.cells #[.bool false, .slice none 0 0, .slice none 0 0] 34))
  have hVb' := hVb.below ((Below.refl _ _).alloc (Nat.le_refl _) (.cells #[.bool false, .slice none 0 0, .slice none 0 0] 34))
  clear hVa hVb
  generalize hW0 : ((w.alloc (.cells #[.bool s1, .slice p1 k1 c1, .slice p2 k2 c2] 34)).alloc (.cells #[.bool s2, .slice p3 k3 c3, .slice p4 k4 c4] 34)).alloc (.cells #[.bool false, .slice none 0 0, .slice none 0 0] 34) = W0 at *
  clear hW0
  have hn2 : w.heap.size + 1 + 1 ≤ W0.heap.size := by obtain ⟨_, h0, _⟩ := hVr; exact Nat.le_of_lt (Array.getElem?_eq_some_iff.1 h0).1
  have HV := hid (And.intro hVr hB0)
  have HB0 := hid hB0
  have HS : Hid (∀ w', Below (w.heap.size + 1 + 1) W0 w' → (w'.cell? ⟨w.heap.size, 0, none⟩ = some (.bool s1) ∧ w'.cell? ⟨w.heap.size, 1, none⟩ = some (.slice p1 k1 c1) ∧ w'.cell? ⟨w.heap.size, 2, none⟩ = some (.slice p2 k2 c2) ∧ w'.cell? ⟨w.heap.size + 1, 0, none⟩ = some (.bool s2) ∧ w'.cell? ⟨w.heap.size + 1, 1, none⟩ = some (.slice p3 k3 c3) ∧ w'.cell? ⟨w.heap.size + 1, 2, none⟩ = some (.slice p4 k4 c4) ∧ Hid (Below (w.heap.size + 1 + 1) W0 w'))) :=
    hid fun w' hb => ⟨(bcellN hb _ _ (by omega)).trans hVa'.cells.1, (bcellN hb _ _ (by omega)).trans hVa'.cells.2.1, (bcellN hb _ _ (by omega)).trans hVa'.cells.2.2.1, (bcellN hb _ _ (by omega)).trans hVb'.cells.1, (bcellN hb _ _ (by omega)).trans hVb'.cells.2.1, (bcellN hb _ _ (by omega)).trans hVb'.cells.2.2.1, hid hb⟩
  have hMx := hid (fun (W : World) (hW : Below w.heap.size w W) => NatMul_any _ _ n1 n2 W (HR.out.1.1.below hW) (HR.out.2.1.below hW) HB.out.1.1 HB.out.2.1)
  have hMd := hid (fun (W : World) (v1 v2 : Value) (hd1 : Rep B16 W v1 d1) (hd2 : Rep B16 W v2 d2) => NatMul_any v1 v2 d1 d2 W hd1 hd2 HB.out.1.2 HB.out.2.2)
  clear hVa' hVb' hVr hB0
  go_region_held3 (fun w' => w'.cell? ⟨w.heap.size, 0, none⟩ = some (.bool s1) ∧ w'.cell? ⟨w.heap.size, 1, none⟩ = some (.slice p1 k1 c1) ∧ w'.cell? ⟨w.heap.size, 2, none⟩ = some (.slice p2 k2 c2) ∧ w'.cell? ⟨w.heap.size + 1, 0, none⟩ = some (.bool s2) ∧ w'.cell? ⟨w.heap.size + 1, 1, none⟩ = some (.slice p3 k3 c3) ∧ w'.cell? ⟨w.heap.size + 1, 2, none⟩ = some (.slice p4 k4 c4) ∧ Hid (Below (w.heap.size + 1 + 1) W0 w'))
    (first | exact HS.out _ (Below.refl _ _).drew | (exact HS.out _ (by assumption)) | exact HS.out _ (below_set3 (by assumption) (Nat.le_refl _)))
    (first
      | (go_at_call_of 63 k3; refine (HDb.out _ (HB0.out.trans ((held6 (N := w.heap.size + 1 + 1) (W0 := W0) (by assumption)).mono (by omega)))).mono ?_; rintro e wb ⟨v5, rfl, hRb, hBb⟩; have hKb := held_any (by first | assumption | exact (Below.refl _ _).drew) hBb; have hKb2 := below_pre hKb hn2; obtain ⟨p5, k5, c5, rfl, hx5⟩ := id hRb; clear hx5)
      | (go_at_call_of 63 k1; refine (HDa.out _ (HB0.out.trans ((held6 (N := w.heap.size + 1 + 1) (W0 := W0) (by assumption)).mono (by omega)))).mono ?_; rintro e wa ⟨v6, rfl, hRa, hBa⟩; have hKa := held_any (by first | assumption | exact (Below.refl _ _).drew) hBa; have hKa2 := below_pre hKa hn2; obtain ⟨p6, k6, c6, rfl, hx6⟩ := id hRa; clear hx6)
      | (go_at_call_of 65 k1; refine (hMx.out _ (HB0.out.trans ((held6 (N := w.heap.size + 1 + 1) (W0 := W0) (by assumption)).mono (by omega)))).mono ?_; rintro e wx ⟨vx, rfl, hRx, hBx⟩; have hKwx := held_any (by first | assumption | exact (Below.refl _ _).drew) hBx; have hKwx2 := below_pre hKwx hn2)
      | (go_at_call_of 65 k6; refine (hMd.out _ _ _ (by first | exact hRa | exact hRa.below (by assumption) | exact (hRa.below hBa).below (by assumption) | exact (hRa.below hBb).below (by assumption) | exact ((hRa.below hBa).below hBb).below (by assumption) | exact ((hRa.below hBb).below hBa).below (by assumption) | exact ((hRa.below hBb).below hBd).below (by assumption)) (by first | exact hRb | exact hRb.below (by assumption) | exact (hRb.below hBa).below (by assumption) | exact (hRb.below hBb).below (by assumption) | exact ((hRb.below hBa).below hBb).below (by assumption) | exact ((hRb.below hBb).below hBa).below (by assumption) | exact ((hRb.below hBb).below hBd).below (by assumption))).mono ?_; rintro e wd ⟨vd, rfl, hRd, hBd⟩; have hKwd := held_any (by first | assumption | exact (Below.refl _ _).drew) hBd; have hKwd2 := below_pre hKwd hn2)
      | (go_at_call 60; refine (hNew.out _ _ _ (by first | exact hRx | exact hRx.below (by assumption) | exact (hRx.below hBd).below (by assumption) | exact (hRx.below hBa).below (by assumption) | exact (hRx.below hBb).below (by assumption) | exact ((hRx.below hBa).below hBb).below (by assumption) | exact ((hRx.below hBb).below hBa).below (by assumption) | exact ((hRx.below hBb).below hBd).below (by assumption)) (by first | exact hRd | exact hRd.below (by assumption) | exact (hRd.below hBa).below (by assumption) | exact (hRd.below hBb).below (by assumption) | exact ((hRd.below hBa).below hBb).below (by assumption) | exact ((hRd.below hBb).below hBa).below (by assumption) | exact ((hRd.below hBb).below hBd).below (by assumption))).mono ?_; rintro e wf ⟨sg, pa, ka, ca, pb, kb, cb, rfl, HF, hBf⟩; have hKf := held_any (by first | assumption | exact (Below.refl _ _).drew) hBf; have hKf2 := below_pre hKf hn2; obtain ⟨x0, x1, x2, y0, y1, y2⟩ := (HV.out.1.below hKf).cells))
  all_goals
    rename_i hHeld
    clear hHeld
    go_wp2_with fail
    exact rProd_ret rfl ((HV.out.1.below hKf).store trivial trivial trivial) ⟨_, rfl, HF.out.store3 (HV.out.1.below hKf) _ _ _, below_set3 (HV.out.2.trans (hKf.mono HV.out.2.size)) (by show w.heap.size ≤ w.heap.size + 1 + 1; omega)⟩

set_option maxHeartbeats 8000000 in
set_option maxRecDepth 100000 in
theorem rDiv_any (va vb : Value) (x y : Bool × Nat × Nat) (A : Nat) (w : World) (ha : QNorm w va x) (hb : QNorm w vb y)
    (hn1 : x.2.1 < B16 ^ A) (hd1 : x.2.2 < B16 ^ A) (hn2 : y.2.1 < B16 ^ A) (hd2 : y.2.2 < B16 ^ A) (hA : A ≤ 1000000) (h1 : 0 < x.2.2) (h2 : 0 < y.2.2) (h3 : 0 < y.2.1) :
    Calls Tryd.prog 82 #[va, vb] w fun e w' => ∃ v', e = .returned v' ∧ QNorm w' v' (frac (x.1 != y.1) (x.2.1 * y.2.2) (x.2.2 * y.2.1)) ∧ Below w.heap.size w w' := by
  have HDa := hid (fun (W : World) (hW : Below w.heap.size w W) => den_any va x.1 x.2.1 x.2.2 W (ha.below hW))
  have HDb := hid (fun (W : World) (hW : Below w.heap.size w W) => den_any vb y.1 y.2.1 y.2.2 W (hb.below hW))
  rw [den1_self h1] at HDa
  rw [den1_self h2] at HDb
  have hD0 : 0 < x.2.2 * y.2.1 := Nat.mul_pos h1 h3
  have HX := hid (And.intro (mul_b (c := 2 * A) hn1 hd2 (by omega)) (mul_b (c := 2 * A) hd1 hn2 (by omega)))
  have hA2 : 2 * A ≤ 800000000 := by omega
  have HB := hid (And.intro (And.intro (b_big hn1 (by omega)) (b_big hd1 (by omega))) (And.intro (b_big hn2 (by omega)) (b_big hd2 (by omega))))
  obtain ⟨s1, hs1⟩ : ∃ s, s = x.1 := ⟨_, rfl⟩
  obtain ⟨s2, hs2⟩ : ∃ s, s = y.1 := ⟨_, rfl⟩
  have hNew := hid (fun (W : World) (vN vD : Value) (hN : Rep B16 W vN (x.2.1 * y.2.2)) (hD : Rep B16 W vD (x.2.2 * y.2.1)) => Make_open (x.1 != y.1) vN vD (x.2.1 * y.2.2) (x.2.2 * y.2.1) (2 * A) W hN hD HX.out.1 HX.out.2 hA2 hD0)
  clear hn1 hd1 hn2 hd2 h1 h2 hA hA2 hD0 HX
  obtain ⟨vn1, vd1, rfl, hrn1, hrd1⟩ := ha
  obtain ⟨vn2, vd2, rfl, hrn2, hrd2⟩ := hb
  have HR := hid (And.intro (And.intro hrn1 hrd1) (And.intro hrn2 hrd2))
  obtain ⟨p1, k1, c1, rfl, _, _, _⟩ := hrn1
  obtain ⟨p2, k2, c2, rfl, _, _, _⟩ := hrd1
  obtain ⟨p3, k3, c3, rfl, _, _, _⟩ := hrn2
  obtain ⟨p4, k4, c4, rfl, _, _, _⟩ := hrd2
  rw [← hs1, ← hs2] at hNew
  rw [← hs1] at HDa
  rw [← hs2] at HDb
  rw [← hs1, ← hs2]
  clear hs1 hs2
  obtain ⟨n1, hn1⟩ : ∃ n, n = x.2.1 := ⟨_, rfl⟩
  obtain ⟨d1, hd1⟩ : ∃ n, n = x.2.2 := ⟨_, rfl⟩
  obtain ⟨n2, hn2⟩ : ∃ n, n = y.2.1 := ⟨_, rfl⟩
  obtain ⟨d2, hd2⟩ : ∃ n, n = y.2.2 := ⟨_, rfl⟩
  simp only [← hn1, ← hd1, ← hn2, ← hd2] at *
  clear hn1 hd1 hn2 hd2
  obtain ⟨t, ht⟩ : ∃ t, t = frac (s1 != s2) (n1 * d2) (d1 * n2) := ⟨_, rfl⟩
  rw [← ht] at hNew ⊢
  clear ht
  go_enter Tryd.func82, Tryd.ntmps82
  go_wp2_with fail
  have hVa : Var3 (w.alloc (.cells #[.bool s1, .slice p1 k1 c1, .slice p2 k2 c2] 34)) w.heap.size (.bool s1) (.slice p1 k1 c1) (.slice p2 k2 c2) := Var3.alloc w 34 trivial trivial trivial
  have hVb := Var3.alloc2 w (.cells #[.bool s1, .slice p1 k1 c1, .slice p2 k2 c2] 34) (x := .bool s2) (y := .slice p3 k3 c3) (z := .slice p4 k4 c4) 34 trivial trivial trivial
  have hVr := Var3.alloc3 w (.cells #[.bool s1, .slice p1 k1 c1, .slice p2 k2 c2] 34) (.cells #[.bool s2, .slice p3 k3 c3, .slice p4 k4 c4] 34) (x := .bool false) (y := .slice none 0 0) (z := .slice none 0 0) 34 trivial trivial trivial
  have hB0 := below_alloc3 w (.cells #[.bool s1, .slice p1 k1 c1, .slice p2 k2 c2] 34) (.cells #[.bool s2, .slice p3 k3 c3, .slice p4 k4 c4] 34) (.cells #[.bool false, .slice none 0 0, .slice none 0 0] 34)
  have hVa' := (hVa.below ((Below.refl _ _).alloc (Nat.le_refl _) (.cells #[.bool s2, .slice p3 k3 c3, .slice p4 k4 c4] 34))).below ((Below.refl _ _).alloc (Nat.le_refl _) (.cells #[.bool false, .slice none 0 0, .slice none 0 0] 34))
  have hVb' := hVb.below ((Below.refl _ _).alloc (Nat.le_refl _) (.cells #[.bool false, .slice none 0 0, .slice none 0 0] 34))
  clear hVa hVb
  generalize hW0 : ((w.alloc (.cells #[.bool s1, .slice p1 k1 c1, .slice p2 k2 c2] 34)).alloc (.cells #[.bool s2, .slice p3 k3 c3, .slice p4 k4 c4] 34)).alloc (.cells #[.bool false, .slice none 0 0, .slice none 0 0] 34) = W0 at *
  clear hW0
  have hn2 : w.heap.size + 1 + 1 ≤ W0.heap.size := by obtain ⟨_, h0, _⟩ := hVr; exact Nat.le_of_lt (Array.getElem?_eq_some_iff.1 h0).1
  have HV := hid (And.intro hVr hB0)
  have HB0 := hid hB0
  have HS : Hid (∀ w', Below (w.heap.size + 1 + 1) W0 w' → (w'.cell? ⟨w.heap.size, 0, none⟩ = some (.bool s1) ∧ w'.cell? ⟨w.heap.size, 1, none⟩ = some (.slice p1 k1 c1) ∧ w'.cell? ⟨w.heap.size, 2, none⟩ = some (.slice p2 k2 c2) ∧ w'.cell? ⟨w.heap.size + 1, 0, none⟩ = some (.bool s2) ∧ w'.cell? ⟨w.heap.size + 1, 1, none⟩ = some (.slice p3 k3 c3) ∧ w'.cell? ⟨w.heap.size + 1, 2, none⟩ = some (.slice p4 k4 c4) ∧ Hid (Below (w.heap.size + 1 + 1) W0 w'))) :=
    hid fun w' hb => ⟨(bcellN hb _ _ (by omega)).trans hVa'.cells.1, (bcellN hb _ _ (by omega)).trans hVa'.cells.2.1, (bcellN hb _ _ (by omega)).trans hVa'.cells.2.2.1, (bcellN hb _ _ (by omega)).trans hVb'.cells.1, (bcellN hb _ _ (by omega)).trans hVb'.cells.2.1, (bcellN hb _ _ (by omega)).trans hVb'.cells.2.2.1, hid hb⟩
  have hMx := hid (fun (W : World) (vd : Value) (hW : Below w.heap.size w W) (hd : Rep B16 W vd d2) => NatMul_any _ vd n1 d2 W (HR.out.1.1.below hW) hd HB.out.1.1 HB.out.2.2)
  have hMd := hid (fun (W : World) (vd : Value) (hW : Below w.heap.size w W) (hd : Rep B16 W vd d1) => NatMul_any vd _ d1 n2 W hd (HR.out.2.1.below hW) HB.out.1.2 HB.out.2.1)
  clear hVa' hVb' hVr hB0
  go_region_held3 (fun w' => w'.cell? ⟨w.heap.size, 0, none⟩ = some (.bool s1) ∧ w'.cell? ⟨w.heap.size, 1, none⟩ = some (.slice p1 k1 c1) ∧ w'.cell? ⟨w.heap.size, 2, none⟩ = some (.slice p2 k2 c2) ∧ w'.cell? ⟨w.heap.size + 1, 0, none⟩ = some (.bool s2) ∧ w'.cell? ⟨w.heap.size + 1, 1, none⟩ = some (.slice p3 k3 c3) ∧ w'.cell? ⟨w.heap.size + 1, 2, none⟩ = some (.slice p4 k4 c4) ∧ Hid (Below (w.heap.size + 1 + 1) W0 w'))
    (first | exact HS.out _ (Below.refl _ _).drew | (exact HS.out _ (by assumption)) | exact HS.out _ (below_set3 (by assumption) (Nat.le_refl _)))
    (first
      | (go_at_call_of 63 k3; refine (HDb.out _ (HB0.out.trans ((held6 (N := w.heap.size + 1 + 1) (W0 := W0) (by assumption)).mono (by omega)))).mono ?_; rintro e wb ⟨v5, rfl, hRb, hBb⟩; have hKb := held_any (by first | assumption | exact (Below.refl _ _).drew) hBb; have hKb2 := below_pre hKb hn2; obtain ⟨p5, k5, c5, rfl, hx5⟩ := id hRb; clear hx5)
      | (go_at_call_of 63 k1; refine (HDa.out _ (HB0.out.trans ((held6 (N := w.heap.size + 1 + 1) (W0 := W0) (by assumption)).mono (by omega)))).mono ?_; rintro e wa ⟨v6, rfl, hRa, hBa⟩; have hKa := held_any (by first | assumption | exact (Below.refl _ _).drew) hBa; have hKa2 := below_pre hKa hn2; obtain ⟨p6, k6, c6, rfl, hx6⟩ := id hRa; clear hx6)
      | (go_at_call_of 65 k1; refine (hMx.out _ _ (HB0.out.trans ((held6 (N := w.heap.size + 1 + 1) (W0 := W0) (by assumption)).mono (by omega))) (by first | exact hRb | exact hRb.below (by assumption) | exact (hRb.below hBa).below (by assumption) | exact (hRb.below hBb).below (by assumption) | exact ((hRb.below hBa).below hBb).below (by assumption) | exact ((hRb.below hBb).below hBa).below (by assumption) | exact ((hRb.below hBb).below hBd).below (by assumption))).mono ?_; rintro e wx ⟨vx, rfl, hRx, hBx⟩; have hKwx := held_any (by first | assumption | exact (Below.refl _ _).drew) hBx; have hKwx2 := below_pre hKwx hn2)
      | (go_at_call_of 65 k3; refine (hMd.out _ _ (HB0.out.trans ((held6 (N := w.heap.size + 1 + 1) (W0 := W0) (by assumption)).mono (by omega))) (by first | exact hRa | exact hRa.below (by assumption) | exact (hRa.below hBa).below (by assumption) | exact (hRa.below hBb).below (by assumption) | exact ((hRa.below hBa).below hBb).below (by assumption) | exact ((hRa.below hBb).below hBa).below (by assumption) | exact ((hRa.below hBb).below hBd).below (by assumption))).mono ?_; rintro e wd ⟨vd, rfl, hRd, hBd⟩; have hKwd := held_any (by first | assumption | exact (Below.refl _ _).drew) hBd; have hKwd2 := below_pre hKwd hn2)
      | (go_at_call 60; refine (hNew.out _ _ _ (by first | exact hRx | exact hRx.below (by assumption) | exact (hRx.below hBd).below (by assumption) | exact (hRx.below hBa).below (by assumption) | exact (hRx.below hBb).below (by assumption) | exact ((hRx.below hBa).below hBb).below (by assumption) | exact ((hRx.below hBb).below hBa).below (by assumption) | exact ((hRx.below hBb).below hBd).below (by assumption)) (by first | exact hRd | exact hRd.below (by assumption) | exact (hRd.below hBa).below (by assumption) | exact (hRd.below hBb).below (by assumption) | exact ((hRd.below hBa).below hBb).below (by assumption) | exact ((hRd.below hBb).below hBa).below (by assumption) | exact ((hRd.below hBb).below hBd).below (by assumption))).mono ?_; rintro e wf ⟨sg, pa, ka, ca, pb, kb, cb, rfl, HF, hBf⟩; have hKf := held_any (by first | assumption | exact (Below.refl _ _).drew) hBf; have hKf2 := below_pre hKf hn2; obtain ⟨x0, x1, x2, y0, y1, y2⟩ := (HV.out.1.below hKf).cells))
  all_goals
    rename_i hHeld
    clear hHeld
    go_wp2_with fail
    exact rDiv_ret rfl ((HV.out.1.below hKf).store trivial trivial trivial) ⟨_, rfl, HF.out.store3 (HV.out.1.below hKf) _ _ _, below_set3 (HV.out.2.trans (hKf.mono HV.out.2.size)) (by show w.heap.size ≤ w.heap.size + 1 + 1; omega)⟩

end Go.Proofs.YtdinpeglclkjhaaDoor
