/- The root of a fraction, in the specification. -/
import Derived.Test.YtnoonhomjnpbjaaDoorRootQ
namespace Go.Proofs.YtnoonhomjnpbjaaDoor
open Go.RowKit Dg Rt

theorem b_800 {x a : Nat} (h : x < B16 ^ a) (ha : a ≤ 400) : x < B16 ^ 800 := by
  have hk : a ≤ 800 := by omega
  generalize 800 = b at *
  exact b_bigk h hk
theorem b_300k {x a : Nat} (h : x < B16 ^ a) (ha : a ≤ 400) : x < B16 ^ 300000 := by
  have hk : a ≤ 300000 := by omega
  generalize 300000 = b at *
  exact b_bigk h hk
theorem sv_abs (s : Bool) (n : Nat) : (sv s n).natAbs = n := by
  unfold sv; cases s <;> simp
theorem fcmp_zero_iff {x y : Bool × Nat × Nat} (hx : IsFr x) (hy : IsFr y) : fcmp x y = 0 ↔ x = y := by
  obtain ⟨gx, px, zx⟩ := isFr_lowest hx
  obtain ⟨gy, py, zy⟩ := isFr_lowest hy
  constructor
  · intro h
    have he : sv x.1 x.2.1 * (y.2.2 : Int) = sv y.1 y.2.1 * (x.2.2 : Int) := by
      unfold fcmp cmpI at h
      split at h
      · exact absurd h (by decide)
      · split at h
        · exact absurd h (by decide)
        · omega
    have hn : x.2.1 * y.2.2 = y.2.1 * x.2.2 := by
      have := congrArg Int.natAbs he
      rwa [Int.natAbs_mul, Int.natAbs_mul, sv_abs, sv_abs, Int.natAbs_natCast, Int.natAbs_natCast] at this
    have d1 : x.2.2 ∣ y.2.2 := (Nat.Coprime.symm gx).dvd_of_dvd_mul_left ⟨y.2.1, by rw [hn, Nat.mul_comm]⟩
    have d2 : y.2.2 ∣ x.2.2 := (Nat.Coprime.symm gy).dvd_of_dvd_mul_left ⟨x.2.1, by rw [← hn, Nat.mul_comm]⟩
    have hd : x.2.2 = y.2.2 := Nat.dvd_antisymm d1 d2
    rw [hd] at hn he
    have hnn : x.2.1 = y.2.1 := Nat.eq_of_mul_eq_mul_right py hn
    have hs : x.1 = y.1 := by
      have he2 : sv x.1 x.2.1 = sv y.1 y.2.1 := Int.eq_of_mul_eq_mul_right (by omega) he
      rw [hnn] at he2
      rcases Nat.eq_zero_or_pos y.2.1 with h0 | h0
      · rw [zx (hnn.trans h0), zy h0]
      · unfold sv at he2
        cases h1 : x.1 <;> cases h2 : y.1 <;> simp [h1, h2] at he2 ⊢ <;> omega
    obtain ⟨a, b, c⟩ := x
    obtain ⟨a', b', c'⟩ := y
    simp only at hs hnn hd
    rw [hs, hnn, hd]
  · rintro rfl
    unfold fcmp cmpI
    rw [if_neg (Int.lt_irrefl _), if_neg (Int.lt_irrefl _)]
/-- What the reference's Exact returns. -/
noncomputable def rootq (t : Bool × Nat × Nat) (n : Nat) : Bool × Nat × Nat := if rootOk t n then rootr t n else (false, 0, 1)
def RootResQ (w : World) (e : Ending) (t : Bool × Nat × Nat) (n : Nat) : Prop :=
  ∃ sg pa ka ca pb kb cb, e = .returned (.tuple #[.agg #[.bool sg, .slice pa ka ca, .slice pb kb cb], .bool (rootOk t n)]) ∧ QNorm w (.agg #[.bool sg, .slice pa ka ca, .slice pb kb cb]) (rootq t n)
theorem RootResQ.no {w : World} {t : Bool × Nat × Nat} {n : Nat} {sg : Bool} {pa pb : Option Addr} {ka ca kb cb : Nat} (h : rootOk t n = false) (hF : QNorm w (.agg #[.bool sg, .slice pa ka ca, .slice pb kb cb]) (false, 0, 1)) :
    RootResQ w (.returned (.tuple #[.agg #[.bool sg, .slice pa ka ca, .slice pb kb cb], .bool false])) t n := ⟨_, _, _, _, _, _, _, by rw [h], by unfold rootq; rw [h]; exact hF⟩
theorem RootResQ.yes {w : World} {t r : Bool × Nat × Nat} {n : Nat} {sg : Bool} {pa pb : Option Addr} {ka ca kb cb : Nat} (h : rootOk t n = true) (hr : rootr t n = r) (hF : QNorm w (.agg #[.bool sg, .slice pa ka ca, .slice pb kb cb]) r) :
    RootResQ w (.returned (.tuple #[.agg #[.bool sg, .slice pa ka ca, .slice pb kb cb], .bool true])) t n := ⟨_, _, _, _, _, _, _, by rw [h], by unfold rootq; rw [h, if_pos rfl, hr]; exact hF⟩
theorem rExact_ret {W : World} {B : Nat} {x y z ev : Value} {tm : Array Value} {R : Ending → World → Prop} (h2 : tm[4]?.getD undef = .pointer (some ⟨B, 0, none⟩)) (h3 : tm[5]?.getD undef = ev) (hV : Var3 W B x y z)
    (hR : R (.returned (.tuple #[.agg #[x, y, z], ev])) W) : bodyPost Tryd.prog Tryd.f33 R .ret { tmps := tm, defers := [] } W := by
  obtain ⟨c0, c1, c2, _, _, _⟩ := hV.cells
  exact bodyPost_ret (v := .tuple #[.agg #[x, y, z], ev]) (by simp [results, Tryd.results33, go_sem, h2, h3, c0, c1, c2]) rfl hR

set_option maxHeartbeats 8000000 in
set_option maxRecDepth 100000 in
theorem rExact_any (v : Value) (t : Bool × Nat × Nat) (n A : Nat) (w : World) (h : QNorm w v t) (hI : IsFr t) (hn : t.2.1 < B16 ^ A) (hd : t.2.2 < B16 ^ A) (hA : A ≤ 400) (h2 : 2 ≤ n) (h8 : n ≤ 8) :
    Calls Tryd.prog 33 #[v, .int .i64 (n : Int)] w fun e w' => Below w.heap.size w w' ∧ RootResQ w' e t n := by
  have hq := hid h
  have h0 := hI.pos
  have HI := hid (fun (W : World) => qopen (t := (false, 0, 1)) (rInt_any 0 W (by decide) (by decide)))
  have HDa := hid (fun (W : World) (hW : Below w.heap.size w W) => den_any v t.1 t.2.1 t.2.2 W (h.below hW))
  rw [den1_self h0] at HDa
  obtain ⟨vn1, vd1, rfl, hrn, hrd⟩ := h
  have HRn := hid (fun (W : World) (hW : Below w.heap.size w W) => NatRoot_any vn1 t.2.1 n A W (hrn.below hW) hn hA h2 h8)
  have HRd := hid (fun (W : World) (v1 : Value) (h1 : Rep B16 W v1 t.2.2) => NatRoot_any v1 t.2.2 n A W h1 hd hA h2 h8)
  have hNb : nroot t.2.1 n < B16 ^ 800 := Nat.lt_of_le_of_lt (nroot_le (by omega)) (b_800 hn hA)
  have hDb : nroot t.2.2 n < B16 ^ 800 := Nat.lt_of_le_of_lt (nroot_le (by omega)) (b_800 hd hA)
  have hDp : 0 < nroot t.2.2 n := nroot_pos (by omega) h0
  have HMk := hid (fun (W : World) (v1 v2 : Value) (h1 : Rep B16 W v1 (nroot t.2.1 n)) (h2 : Rep B16 W v2 (nroot t.2.2 n)) => Make_open t.1 v1 v2 (nroot t.2.1 n) (nroot t.2.2 n) 800 W h1 h2 hNb hDb (by omega) hDp)
  have HQ := hid (And.intro hI (And.intro hn (And.intro hd (And.intro hA (And.intro h2 h8)))))
  have HBq := hid (And.intro hNb (And.intro hDb hDp))
  obtain ⟨N, hN⟩ : ∃ b, b = nroot t.2.1 n := ⟨_, rfl⟩
  obtain ⟨D, hD⟩ : ∃ b, b = nroot t.2.2 n := ⟨_, rfl⟩
  rw [← hN] at HRn HMk
  rw [← hD] at HRd HMk
  have HND := hid (And.intro hN hD)
  clear hn hd hA h2 h8 hI h0 hNb hDb hDp hN hD
  obtain ⟨p1, k1, c1, rfl, _⟩ := hrn
  obtain ⟨p2, k2, c2, rfl, _⟩ := hrd
  obtain ⟨s1, hs1⟩ : ∃ s, s = t.1 := ⟨_, rfl⟩
  rw [← hs1] at HDa HMk hq ⊢
  have HS1 := hid hs1
  clear hs1
  have ho1 : ((n : Int) % 2 == 0) = decide (n % 2 = 0) := by
    by_cases h : n % 2 = 0
    · rw [decide_eq_true h, show (n : Int) % 2 = 0 by omega]; rfl
    · rw [decide_eq_false h, show (n : Int) % 2 = 1 by omega]; rfl
  have ho2 : (Int.tmod (n : Int) 2 == 0) = decide (n % 2 = 0) := by rw [Int.tmod_eq_emod_of_nonneg (by omega)]; exact ho1
  obtain ⟨b, hb⟩ : ∃ b, b = decide (n % 2 = 0) := ⟨_, rfl⟩
  rw [← hb] at ho1 ho2
  have HO := hid hb
  clear hb
  have hal := below_alloc2 w (.cells #[.bool s1, .slice p1 k1 c1, .slice p2 k2 c2] 57) (.cells #[.bool false, .slice none 0 0, .slice none 0 0] 57)
  have hVa := (Var3.alloc w (x := .bool s1) (y := .slice p1 k1 c1) (z := .slice p2 k2 c2) 57 trivial trivial trivial).below ((Below.refl _ _).alloc (Nat.le_refl _) (.cells #[.bool false, .slice none 0 0, .slice none 0 0] 57))
  have hVr := Var3.alloc2 w (.cells #[.bool s1, .slice p1 k1 c1, .slice p2 k2 c2] 57) (x := .bool false) (y := .slice none 0 0) (z := .slice none 0 0) 57 trivial trivial trivial
  go_enter Tryd.func33, Tryd.ntmps33
  go_upto_region 1 with fail
  generalize (w.alloc (.cells #[.bool s1, .slice p1 k1 c1, .slice p2 k2 c2] 57)).alloc (.cells #[.bool false, .slice none 0 0, .slice none 0 0] 57) = W0 at *
  have HV := hid (And.intro hVr (And.intro hal hVa))
  have HB0 := hid hal
  obtain ⟨a0, a1, a2, _⟩ := id hVa.cells
  have HS : Hid (∀ w', Below W0.heap.size W0 w' → (w'.cell? ⟨w.heap.size, 0, none⟩ = some (.bool s1) ∧ w'.cell? ⟨w.heap.size, 1, none⟩ = some (.slice p1 k1 c1) ∧ w'.cell? ⟨w.heap.size, 2, none⟩ = some (.slice p2 k2 c2) ∧ Hid (Below W0.heap.size W0 w'))) :=
    hid fun w' hb => ⟨(hVa.below hb).cells.1, (hVa.below hb).cells.2.1, (hVa.below hb).cells.2.2.1, hid hb⟩
  clear hVr hVa hal
  obtain hsb | hsb : (s1 = true ∧ b = true) ∨ (s1 && b) = false := by cases s1 <;> cases b <;> simp
  · obtain ⟨rfl, rfl⟩ := hsb
    go_wp2_with fail
    refine (HI.out _).mono ?_
    rintro e w1 ⟨sg, pa, ka, ca, pb, kb, cb, rfl, hF1, hB1⟩
    have hV1 := HV.out.1.below hB1
    obtain ⟨x0, x1, x2, y0, y1, y2⟩ := id hV1.cells
    have HE := hid (And.intro hV1 (And.intro (HV.out.2.1.trans (hB1.mono HV.out.2.1.size)) hF1.out))
    clear hV1 hB1 hF1
    have hk : rootOk t n = false := decide_eq_false fun h => h.2.2 ⟨HS1.out.symm, of_decide_eq_true HO.out.symm⟩
    have HK := hid hk
    clear hk
    go_wp2_with fail
    exact rExact_ret rfl rfl (HE.out.1.store trivial trivial trivial) ⟨below_set3 HE.out.2.1 (Nat.le_succ _), RootResQ.no HK.out (HE.out.2.2.store3 HE.out.1 _ _ _)⟩
  · have hgo : Hid (¬ (t.1 = true ∧ n % 2 = 0)) := hid fun h => by
      rw [HS1.out, HO.out, h.1, decide_eq_true h.2] at hsb
      exact absurd hsb (by decide)
    cases s1
    · clear hsb
      go_upto_region 3 with fail
      go_wp2_with fail
      go_region_held3 (fun w' => w'.cell? ⟨w.heap.size, 0, none⟩ = some (.bool false) ∧ w'.cell? ⟨w.heap.size, 1, none⟩ = some (.slice p1 k1 c1) ∧ w'.cell? ⟨w.heap.size, 2, none⟩ = some (.slice p2 k2 c2) ∧ Hid (Below W0.heap.size W0 w'))
        (first | exact HS.out _ (Below.refl _ _).drew | (exact HS.out _ (by assumption)) | (exact HS.out _ (held3_alloc (by assumption) _)) | (exact HS.out _ (held3_alloc' (by assumption) _)) | (exact HS.out _ (below_al1 (by assumption) _)) | (exact HS.out _ (below_set3 (by assumption) (by first | exact Nat.le_refl _ | exact hKa.size | exact hKb.size | exact hKc.size))))
        (first
          | (go_at_call_of 80 k1; refine (HRn.out _ (HB0.out.trans ((held3' (N := W0.heap.size) (W0 := W0) (by assumption)).mono HB0.out.size))).mono ?_; rintro e wa ⟨v5, rfl, hRa, hBa⟩; have hKa := held_any (held3' (W0 := W0) (by assumption)) hBa; obtain ⟨p5, k5, c5, rfl, hx5⟩ := id hRa; clear hx5; (try (have hXX := ((Var3.alloc W0 (x := .bool false) (y := .slice none 0 0) (z := .slice none 0 0) 57 trivial trivial trivial).below (Below.refl _ _).drew).below hBa)))
          | (go_at_call 62; refine (HDa.out _ (HB0.out.trans ((held3' (N := W0.heap.size) (W0 := W0) (by assumption)).mono HB0.out.size))).mono ?_; rintro e wb ⟨v6, rfl, hRb, hBb⟩; have hKb := held_any (held3' (W0 := W0) (by assumption)) hBb; obtain ⟨p6, k6, c6, rfl, hx6⟩ := id hRb; clear hx6; have hRa2 := (by first | exact hRa.below hBb | exact (hRa.below ((Below.refl _ _).alloc (Nat.le_refl _) _)).below hBb : Rep B16 wb (.slice p5 k5 c5) N); (first | (have hXX := hXX.below hBb) | (have hXX := (Var3.alloc wa (x := .bool false) (y := .slice none 0 0) (z := .slice none 0 0) 57 trivial trivial trivial).below hBb) | skip))
          | (go_at_call_of 80 k6; refine (HRd.out _ _ (by first | exact hRb | exact hRb.below ((Below.refl _ _).alloc (Nat.le_refl _) _))).mono ?_; rintro e wc ⟨v7, rfl, hRc, hBc⟩; have hKc := held_any (held3' (W0 := W0) (by assumption)) hBc; obtain ⟨p7, k7, c7, rfl, hx7⟩ := id hRc; clear hx7; have hRa3 := (by first | exact hRa2.below hBc | exact (hRa2.below ((Below.refl _ _).alloc (Nat.le_refl _) _)).below hBc : Rep B16 wc (.slice p5 k5 c5) N); (first | (have hXX := hXX.below hBc) | (have hXX := (Var3.alloc wb (x := .bool false) (y := .slice none 0 0) (z := .slice none 0 0) 57 trivial trivial trivial).below hBc) | skip))
          | (go_at_call 45; refine (HMk.out _ _ _ (by first | exact hRa3 | exact hRa3.below ((Below.refl _ _).alloc (Nat.le_refl _) _)) (by first | exact hRc | exact hRc.below ((Below.refl _ _).alloc (Nat.le_refl _) _))).mono ?_; rintro e wd ⟨sg, pa, ka, ca, pb, kb, cb, rfl, hFd, hBd⟩; have hKd := held_any (held3' (W0 := W0) (by assumption)) hBd; (first | (have hXX := hXX.below hBd; obtain ⟨x0, x1, x2, y0, y1, y2⟩ := id hXX.cells) | (have hXX := (Var3.alloc wc (x := .bool false) (y := .slice none 0 0) (z := .slice none 0 0) 57 trivial trivial trivial).below hBd; obtain ⟨x0, x1, x2, y0, y1, y2⟩ := id hXX.cells) | skip)))
      all_goals
        rename_i hHeld
        clear hHeld
        first
          | (have hR5 : Var3 (wd.alloc (.cells #[.bool sg, .slice pa ka ca, .slice pb kb cb] 57)) wd.heap.size (.bool sg) (.slice pa ka ca) (.slice pb kb cb) := Var3.alloc wd 57 trivial trivial trivial
             have hK5 : Below W0.heap.size W0 (wd.alloc (.cells #[.bool sg, .slice pa ka ca, .slice pb kb cb] 57)) := below_al1 hKd _
             have hF5 : QNorm (wd.alloc (.cells #[.bool sg, .slice pa ka ca, .slice pb kb cb] 57)) (.agg #[.bool sg, .slice pa ka ca, .slice pb kb cb]) (frac false N D) := hFd.out.below ((Below.refl _ _).alloc (Nat.le_refl _) _)
             generalize hWN : (wd.alloc (.cells #[.bool sg, .slice pa ka ca, .slice pb kb cb] 57)) = W5 at *
             show Exit.then _ _ Exit.normal _ W5
             clear hWN
             (try clear x0 x1 x2 y0 y1 y2)
             (try clear hXX)
             clear hRa hBa hKa hRb hBb hKb hRa2 hRc hBc hKc hRa3 hFd hBd hKd
             have hV5 := HV.out.1.below hK5
             have hA5 := HV.out.2.2.below hK5
             have hB5 := HV.out.2.1.trans (hK5.mono HV.out.2.1.size)
             clear hK5 HS
             generalize wd.heap.size = X at *)
          | (have hR5 : Var3 (((wd.setCell ⟨wc.heap.size, 0, none⟩ (.bool sg)).setCell ⟨wc.heap.size, 1, none⟩ (.slice pa ka ca)).setCell ⟨wc.heap.size, 2, none⟩ (.slice pb kb cb)) wc.heap.size (.bool sg) (.slice pa ka ca) (.slice pb kb cb) := hXX.store trivial trivial trivial
             have hK5 : Below W0.heap.size W0 (((wd.setCell ⟨wc.heap.size, 0, none⟩ (.bool sg)).setCell ⟨wc.heap.size, 1, none⟩ (.slice pa ka ca)).setCell ⟨wc.heap.size, 2, none⟩ (.slice pb kb cb)) := below_set3 hKd hKc.size
             have hF5 : QNorm (((wd.setCell ⟨wc.heap.size, 0, none⟩ (.bool sg)).setCell ⟨wc.heap.size, 1, none⟩ (.slice pa ka ca)).setCell ⟨wc.heap.size, 2, none⟩ (.slice pb kb cb)) (.agg #[.bool sg, .slice pa ka ca, .slice pb kb cb]) (frac false N D) := hFd.out.store3 hXX _ _ _
             generalize hWN : (((wd.setCell ⟨wc.heap.size, 0, none⟩ (.bool sg)).setCell ⟨wc.heap.size, 1, none⟩ (.slice pa ka ca)).setCell ⟨wc.heap.size, 2, none⟩ (.slice pb kb cb)) = W5 at *
             show Exit.then _ _ Exit.normal _ W5
             clear hWN
             (try clear x0 x1 x2 y0 y1 y2)
             (try clear hXX)
             clear hRa hBa hKa hRb hBb hKb hRa2 hRc hBc hKc hRa3 hFd hBd hKd
             have hV5 := HV.out.1.below hK5
             have hA5 := HV.out.2.2.below hK5
             have hB5 := HV.out.2.1.trans (hK5.mono HV.out.2.1.size)
             clear hK5 HS
             generalize wc.heap.size = X at *)
          | (have hR5 : Var3 (((wd.setCell ⟨wb.heap.size, 0, none⟩ (.bool sg)).setCell ⟨wb.heap.size, 1, none⟩ (.slice pa ka ca)).setCell ⟨wb.heap.size, 2, none⟩ (.slice pb kb cb)) wb.heap.size (.bool sg) (.slice pa ka ca) (.slice pb kb cb) := hXX.store trivial trivial trivial
             have hK5 : Below W0.heap.size W0 (((wd.setCell ⟨wb.heap.size, 0, none⟩ (.bool sg)).setCell ⟨wb.heap.size, 1, none⟩ (.slice pa ka ca)).setCell ⟨wb.heap.size, 2, none⟩ (.slice pb kb cb)) := below_set3 hKd hKb.size
             have hF5 : QNorm (((wd.setCell ⟨wb.heap.size, 0, none⟩ (.bool sg)).setCell ⟨wb.heap.size, 1, none⟩ (.slice pa ka ca)).setCell ⟨wb.heap.size, 2, none⟩ (.slice pb kb cb)) (.agg #[.bool sg, .slice pa ka ca, .slice pb kb cb]) (frac false N D) := hFd.out.store3 hXX _ _ _
             generalize hWN : (((wd.setCell ⟨wb.heap.size, 0, none⟩ (.bool sg)).setCell ⟨wb.heap.size, 1, none⟩ (.slice pa ka ca)).setCell ⟨wb.heap.size, 2, none⟩ (.slice pb kb cb)) = W5 at *
             show Exit.then _ _ Exit.normal _ W5
             clear hWN
             (try clear x0 x1 x2 y0 y1 y2)
             (try clear hXX)
             clear hRa hBa hKa hRb hBb hKb hRa2 hRc hBc hKc hRa3 hFd hBd hKd
             have hV5 := HV.out.1.below hK5
             have hA5 := HV.out.2.2.below hK5
             have hB5 := HV.out.2.1.trans (hK5.mono HV.out.2.1.size)
             clear hK5 HS
             generalize wb.heap.size = X at *)
          | (have hR5 : Var3 (((wd.setCell ⟨wa.heap.size, 0, none⟩ (.bool sg)).setCell ⟨wa.heap.size, 1, none⟩ (.slice pa ka ca)).setCell ⟨wa.heap.size, 2, none⟩ (.slice pb kb cb)) wa.heap.size (.bool sg) (.slice pa ka ca) (.slice pb kb cb) := hXX.store trivial trivial trivial
             have hK5 : Below W0.heap.size W0 (((wd.setCell ⟨wa.heap.size, 0, none⟩ (.bool sg)).setCell ⟨wa.heap.size, 1, none⟩ (.slice pa ka ca)).setCell ⟨wa.heap.size, 2, none⟩ (.slice pb kb cb)) := below_set3 hKd hKa.size
             have hF5 : QNorm (((wd.setCell ⟨wa.heap.size, 0, none⟩ (.bool sg)).setCell ⟨wa.heap.size, 1, none⟩ (.slice pa ka ca)).setCell ⟨wa.heap.size, 2, none⟩ (.slice pb kb cb)) (.agg #[.bool sg, .slice pa ka ca, .slice pb kb cb]) (frac false N D) := hFd.out.store3 hXX _ _ _
             generalize hWN : (((wd.setCell ⟨wa.heap.size, 0, none⟩ (.bool sg)).setCell ⟨wa.heap.size, 1, none⟩ (.slice pa ka ca)).setCell ⟨wa.heap.size, 2, none⟩ (.slice pb kb cb)) = W5 at *
             show Exit.then _ _ Exit.normal _ W5
             clear hWN
             (try clear x0 x1 x2 y0 y1 y2)
             (try clear hXX)
             clear hRa hBa hKa hRb hBb hKb hRa2 hRc hBc hKc hRa3 hFd hBd hKd
             have hV5 := HV.out.1.below hK5
             have hA5 := HV.out.2.2.below hK5
             have hB5 := HV.out.2.1.trans (hK5.mono HV.out.2.1.size)
             clear hK5 HS
             generalize wa.heap.size = X at *)
          | (have hR5 : Var3 (((wd.setCell ⟨W0.heap.size, 0, none⟩ (.bool sg)).setCell ⟨W0.heap.size, 1, none⟩ (.slice pa ka ca)).setCell ⟨W0.heap.size, 2, none⟩ (.slice pb kb cb)) W0.heap.size (.bool sg) (.slice pa ka ca) (.slice pb kb cb) := hXX.store trivial trivial trivial
             have hK5 : Below W0.heap.size W0 (((wd.setCell ⟨W0.heap.size, 0, none⟩ (.bool sg)).setCell ⟨W0.heap.size, 1, none⟩ (.slice pa ka ca)).setCell ⟨W0.heap.size, 2, none⟩ (.slice pb kb cb)) := below_set3 hKd (Nat.le_refl _)
             have hF5 : QNorm (((wd.setCell ⟨W0.heap.size, 0, none⟩ (.bool sg)).setCell ⟨W0.heap.size, 1, none⟩ (.slice pa ka ca)).setCell ⟨W0.heap.size, 2, none⟩ (.slice pb kb cb)) (.agg #[.bool sg, .slice pa ka ca, .slice pb kb cb]) (frac false N D) := hFd.out.store3 hXX _ _ _
             generalize hWN : (((wd.setCell ⟨W0.heap.size, 0, none⟩ (.bool sg)).setCell ⟨W0.heap.size, 1, none⟩ (.slice pa ka ca)).setCell ⟨W0.heap.size, 2, none⟩ (.slice pb kb cb)) = W5 at *
             show Exit.then _ _ Exit.normal _ W5
             clear hWN
             (try clear x0 x1 x2 y0 y1 y2)
             (try clear hXX)
             clear hRa hBa hKa hRb hBb hKb hRa2 hRc hBc hKc hRa3 hFd hBd hKd
             have hV5 := HV.out.1.below hK5
             have hA5 := HV.out.2.2.below hK5
             have hB5 := HV.out.2.1.trans (hK5.mono HV.out.2.1.size)
             clear hK5 HS
             generalize W0.heap.size = X at *)
      all_goals
        have hq5 := hq.out.below hB5
        have hRb : (frac false N D).2.1 < B16 ^ 1000 ∧ (frac false N D).2.2 < B16 ^ 1000 := ⟨b_1000 (Nat.lt_of_le_of_lt (Nat.div_le_self _ _) (by rw [HND.out.1]; exact HBq.out.1)) (by omega), b_1000 (Nat.lt_of_le_of_lt (Nat.div_le_self _ _) (by rw [HND.out.2]; exact HBq.out.2.1)) (by omega)⟩
        have hRp : 0 < (frac false N D).2.2 := frac_pos (by rw [HND.out.2]; exact HBq.out.2.2)
        have hrc : frac false N D = rootc t n := by unfold rootc; rw [← HND.out.1, ← HND.out.2, ← HS1.out]
        have hIr : IsFr (frac false N D) := ⟨_, _, _, by rw [HND.out.2]; exact HBq.out.2.2, rfl⟩
        have hz : fcmp (fpow (frac false N D) n) t = 0 ↔ rootOk t n = true := (fcmp_zero_iff (hIr.pow n) HQ.out.1).trans (by rw [hrc]; exact rootc_pow HQ.out.1 (by have := HQ.out.2.2.2.2.1; omega) hgo.out)
        have HPw := hid (fun (W : World) (hW : Below W5.heap.size W5 W) => rPowerPos_any _ (frac false N D) n W (hF5.below hW) hRb.1 hRb.2 (by have := HQ.out.2.2.2.2.2; omega) hRp)
        have hPb : (fpow (frac false N D) n).2.1 < B16 ^ 300000 ∧ (fpow (frac false N D) n).2.2 < B16 ^ 300000 := ⟨pow_Bb hRb.1 (Nat.le_refl _) (by have := HQ.out.2.2.2.2.2; omega), pow_Bb hRb.2 (Nat.le_refl _) (by have := HQ.out.2.2.2.2.2; omega)⟩
        have HCm := hid (fun (W : World) (v1 : Value) (hW : Below W5.heap.size W5 W) (h1 : QNorm W v1 (fpow (frac false N D) n)) => rCmp_any v1 _ (fpow (frac false N D) n) t 300000 W h1 (hq5.below hW) hPb.1 hPb.2 (b_300k HQ.out.2.1 (by have := HQ.out.2.2.2.1; omega)) (b_300k HQ.out.2.2.1 (by have := HQ.out.2.2.2.1; omega)) (by omega) (hIr.pow n).pos HQ.out.1.pos)
        have HRF := hid (show rootOk t n = true → rootr t n = frac false N D from fun hk => by
          have hk2 := of_decide_eq_true hk
          rw [hrc, rootc_ok HQ.out.1 (by have := HQ.out.2.2.2.2.1; omega) hk2.1 hk2.2.1]
          unfold rootr
          rw [if_pos hk])
        obtain ⟨cq, hcq⟩ : ∃ c, c = fcmp (fpow (frac false N D) n) t := ⟨_, rfl⟩
        rw [← hcq] at HCm hz
        obtain ⟨tp, htp⟩ : ∃ c, c = fpow (frac false N D) n := ⟨_, rfl⟩
        rw [← htp] at HCm HPw
        obtain ⟨tf, htf⟩ : ∃ c, c = frac false N D := ⟨_, rfl⟩
        rw [← htf] at HRF hF5
        clear hcq htp hRb hRp hrc hIr hPb htf
        have HZ := hid hz
        have HE := hid (And.intro hV5 (And.intro hB5 (And.intro hR5 hF5)))
        have HS2 : Hid (∀ w', Below W5.heap.size W5 w' → (w'.cell? ⟨X, 0, none⟩ = some (.bool sg) ∧ w'.cell? ⟨X, 1, none⟩ = some (.slice pa ka ca) ∧ w'.cell? ⟨X, 2, none⟩ = some (.slice pb kb cb) ∧ w'.cell? ⟨w.heap.size, 0, none⟩ = some (.bool false) ∧ w'.cell? ⟨w.heap.size, 1, none⟩ = some (.slice p1 k1 c1) ∧ w'.cell? ⟨w.heap.size, 2, none⟩ = some (.slice p2 k2 c2) ∧ Hid (Below W5.heap.size W5 w'))) :=
          hid fun w' hb => ⟨(hR5.below hb).cells.1, (hR5.below hb).cells.2.1, (hR5.below hb).cells.2.2.1, (hA5.below hb).cells.1, (hA5.below hb).cells.2.1, (hA5.below hb).cells.2.2.1, hid hb⟩
        clear hz hV5 hA5 hB5 hq5 hR5 hF5 HV HB0 a0 a1 a2 HRn HRd HDa HMk
        by_cases hc0 : cq = 0
        · obtain rfl := hc0
          have HKt := hid (HZ.out.1 rfl)
          go_wp2_with fail
          go_region_held3 (fun w' => w'.cell? ⟨X, 0, none⟩ = some (.bool sg) ∧ w'.cell? ⟨X, 1, none⟩ = some (.slice pa ka ca) ∧ w'.cell? ⟨X, 2, none⟩ = some (.slice pb kb cb) ∧ w'.cell? ⟨w.heap.size, 0, none⟩ = some (.bool false) ∧ w'.cell? ⟨w.heap.size, 1, none⟩ = some (.slice p1 k1 c1) ∧ w'.cell? ⟨w.heap.size, 2, none⟩ = some (.slice p2 k2 c2) ∧ Hid (Below W5.heap.size W5 w'))
            (first | exact HS2.out _ (Below.refl _ _).drew | (exact HS2.out _ (by assumption)))
            (first
              | (go_at_call 82; refine (HPw.out _ (Below.refl _ _).drew).mono ?_; rintro e we ⟨v8, rfl, hQe, hBe⟩; have hKe := held_any (W0 := W5) (Below.refl _ _).drew hBe)
              | (go_at_call 81; refine (HCm.out _ _ hKe hQe).mono ?_; rintro e wf ⟨rfl, hBf⟩; have hKf := held_any hKe hBf))
          rename_i hHeld
          clear hHeld
          have hR6 := HE.out.2.2.1.below hKf
          have hV6 := HE.out.1.below hKf
          have hF6 := HE.out.2.2.2.below hKf
          have hB6 := HE.out.2.1.trans (hKf.mono HE.out.2.1.size)
          obtain ⟨x0, x1, x2, _⟩ := id hR6.cells
          obtain ⟨y0, y1, y2, z0, z1, z2⟩ := id hV6.cells
          have HG := hid (And.intro hV6 (And.intro hF6 hB6))
          clear hR6 hV6 hF6 hB6 hKf hKe hBf hBe hQe HCm HPw
          go_wp2_with fail
          exact rExact_ret rfl rfl (HG.out.1.store trivial trivial trivial) ⟨below_set3 HG.out.2.2 (Nat.le_succ _), RootResQ.yes HKt.out (HRF.out HKt.out) (HG.out.2.1.store3 HG.out.1 _ _ _)⟩
        · have hcb : (cq == 0) = false := by simpa using hc0
          have hcb2 : (cq != 0) = true := by simpa using hc0
          have HKt : Hid (rootOk t n = false) := hid (by
            cases hk : rootOk t n
            · rfl
            · exact absurd (HZ.out.2 hk) hc0)
          clear hc0
          go_wp2_with fail
          go_region_held3 (fun w' => w'.cell? ⟨X, 0, none⟩ = some (.bool sg) ∧ w'.cell? ⟨X, 1, none⟩ = some (.slice pa ka ca) ∧ w'.cell? ⟨X, 2, none⟩ = some (.slice pb kb cb) ∧ w'.cell? ⟨w.heap.size, 0, none⟩ = some (.bool false) ∧ w'.cell? ⟨w.heap.size, 1, none⟩ = some (.slice p1 k1 c1) ∧ w'.cell? ⟨w.heap.size, 2, none⟩ = some (.slice p2 k2 c2) ∧ Hid (Below W5.heap.size W5 w'))
            (first | exact HS2.out _ (Below.refl _ _).drew | (exact HS2.out _ (by assumption)))
            (first
              | (go_at_call 82; refine (HPw.out _ (Below.refl _ _).drew).mono ?_; rintro e we ⟨v8, rfl, hQe, hBe⟩; have hKe := held_any (W0 := W5) (Below.refl _ _).drew hBe)
              | (go_at_call 81; refine (HCm.out _ _ hKe hQe).mono ?_; rintro e wf ⟨rfl, hBf⟩; have hKf := held_any hKe hBf))
          rename_i hHeld
          clear hHeld
          have HV6 := hid (And.intro (HE.out.1.below hKf) (HE.out.2.1.trans (hKf.mono HE.out.2.1.size)))
          clear hKf hKe hBf hBe hQe HCm HPw
          go_wp2_with fail
          refine (HI.out _).mono ?_
          rintro e w7 ⟨sg', pa', ka', ca', pb', kb', cb', rfl, hF7, hB7⟩
          have hV7 := HV6.out.1.below hB7
          obtain ⟨y0, y1, y2, z0, z1, z2⟩ := id hV7.cells
          have HG := hid (And.intro hV7 (And.intro hF7.out (HV6.out.2.trans (hB7.mono HV6.out.2.size))))
          clear hV7 hF7 hB7
          go_wp2_with fail
          exact rExact_ret rfl rfl (HG.out.1.store trivial trivial trivial) ⟨below_set3 HG.out.2.2 (Nat.le_succ _), RootResQ.no HKt.out (HG.out.2.1.store3 HG.out.1 _ _ _)⟩
    · obtain rfl : b = false := by simpa using hsb
      clear hsb
      go_upto_region 3 with fail
      go_wp2_with fail
      go_region_held3 (fun w' => w'.cell? ⟨w.heap.size, 0, none⟩ = some (.bool true) ∧ w'.cell? ⟨w.heap.size, 1, none⟩ = some (.slice p1 k1 c1) ∧ w'.cell? ⟨w.heap.size, 2, none⟩ = some (.slice p2 k2 c2) ∧ Hid (Below W0.heap.size W0 w'))
        (first | exact HS.out _ (Below.refl _ _).drew | (exact HS.out _ (by assumption)) | (exact HS.out _ (held3_alloc (by assumption) _)) | (exact HS.out _ (held3_alloc' (by assumption) _)) | (exact HS.out _ (below_al1 (by assumption) _)) | (exact HS.out _ (below_set3 (by assumption) (by first | exact Nat.le_refl _ | exact hKa.size | exact hKb.size | exact hKc.size))))
        (first
          | (go_at_call_of 80 k1; refine (HRn.out _ (HB0.out.trans ((held3' (N := W0.heap.size) (W0 := W0) (by assumption)).mono HB0.out.size))).mono ?_; rintro e wa ⟨v5, rfl, hRa, hBa⟩; have hKa := held_any (held3' (W0 := W0) (by assumption)) hBa; obtain ⟨p5, k5, c5, rfl, hx5⟩ := id hRa; clear hx5; (try (have hXX := ((Var3.alloc W0 (x := .bool false) (y := .slice none 0 0) (z := .slice none 0 0) 57 trivial trivial trivial).below (Below.refl _ _).drew).below hBa)))
          | (go_at_call 62; refine (HDa.out _ (HB0.out.trans ((held3' (N := W0.heap.size) (W0 := W0) (by assumption)).mono HB0.out.size))).mono ?_; rintro e wb ⟨v6, rfl, hRb, hBb⟩; have hKb := held_any (held3' (W0 := W0) (by assumption)) hBb; obtain ⟨p6, k6, c6, rfl, hx6⟩ := id hRb; clear hx6; have hRa2 := (by first | exact hRa.below hBb | exact (hRa.below ((Below.refl _ _).alloc (Nat.le_refl _) _)).below hBb : Rep B16 wb (.slice p5 k5 c5) N); (first | (have hXX := hXX.below hBb) | (have hXX := (Var3.alloc wa (x := .bool false) (y := .slice none 0 0) (z := .slice none 0 0) 57 trivial trivial trivial).below hBb) | skip))
          | (go_at_call_of 80 k6; refine (HRd.out _ _ (by first | exact hRb | exact hRb.below ((Below.refl _ _).alloc (Nat.le_refl _) _))).mono ?_; rintro e wc ⟨v7, rfl, hRc, hBc⟩; have hKc := held_any (held3' (W0 := W0) (by assumption)) hBc; obtain ⟨p7, k7, c7, rfl, hx7⟩ := id hRc; clear hx7; have hRa3 := (by first | exact hRa2.below hBc | exact (hRa2.below ((Below.refl _ _).alloc (Nat.le_refl _) _)).below hBc : Rep B16 wc (.slice p5 k5 c5) N); (first | (have hXX := hXX.below hBc) | (have hXX := (Var3.alloc wb (x := .bool false) (y := .slice none 0 0) (z := .slice none 0 0) 57 trivial trivial trivial).below hBc) | skip))
          | (go_at_call 45; refine (HMk.out _ _ _ (by first | exact hRa3 | exact hRa3.below ((Below.refl _ _).alloc (Nat.le_refl _) _)) (by first | exact hRc | exact hRc.below ((Below.refl _ _).alloc (Nat.le_refl _) _))).mono ?_; rintro e wd ⟨sg, pa, ka, ca, pb, kb, cb, rfl, hFd, hBd⟩; have hKd := held_any (held3' (W0 := W0) (by assumption)) hBd; (first | (have hXX := hXX.below hBd; obtain ⟨x0, x1, x2, y0, y1, y2⟩ := id hXX.cells) | (have hXX := (Var3.alloc wc (x := .bool false) (y := .slice none 0 0) (z := .slice none 0 0) 57 trivial trivial trivial).below hBd; obtain ⟨x0, x1, x2, y0, y1, y2⟩ := id hXX.cells) | skip)))
      all_goals
        rename_i hHeld
        clear hHeld
        first
          | (have hR5 : Var3 (wd.alloc (.cells #[.bool sg, .slice pa ka ca, .slice pb kb cb] 57)) wd.heap.size (.bool sg) (.slice pa ka ca) (.slice pb kb cb) := Var3.alloc wd 57 trivial trivial trivial
             have hK5 : Below W0.heap.size W0 (wd.alloc (.cells #[.bool sg, .slice pa ka ca, .slice pb kb cb] 57)) := below_al1 hKd _
             have hF5 : QNorm (wd.alloc (.cells #[.bool sg, .slice pa ka ca, .slice pb kb cb] 57)) (.agg #[.bool sg, .slice pa ka ca, .slice pb kb cb]) (frac true N D) := hFd.out.below ((Below.refl _ _).alloc (Nat.le_refl _) _)
             generalize hWN : (wd.alloc (.cells #[.bool sg, .slice pa ka ca, .slice pb kb cb] 57)) = W5 at *
             show Exit.then _ _ Exit.normal _ W5
             clear hWN
             (try clear x0 x1 x2 y0 y1 y2)
             (try clear hXX)
             clear hRa hBa hKa hRb hBb hKb hRa2 hRc hBc hKc hRa3 hFd hBd hKd
             have hV5 := HV.out.1.below hK5
             have hA5 := HV.out.2.2.below hK5
             have hB5 := HV.out.2.1.trans (hK5.mono HV.out.2.1.size)
             clear hK5 HS
             generalize wd.heap.size = X at *)
          | (have hR5 : Var3 (((wd.setCell ⟨wc.heap.size, 0, none⟩ (.bool sg)).setCell ⟨wc.heap.size, 1, none⟩ (.slice pa ka ca)).setCell ⟨wc.heap.size, 2, none⟩ (.slice pb kb cb)) wc.heap.size (.bool sg) (.slice pa ka ca) (.slice pb kb cb) := hXX.store trivial trivial trivial
             have hK5 : Below W0.heap.size W0 (((wd.setCell ⟨wc.heap.size, 0, none⟩ (.bool sg)).setCell ⟨wc.heap.size, 1, none⟩ (.slice pa ka ca)).setCell ⟨wc.heap.size, 2, none⟩ (.slice pb kb cb)) := below_set3 hKd hKc.size
             have hF5 : QNorm (((wd.setCell ⟨wc.heap.size, 0, none⟩ (.bool sg)).setCell ⟨wc.heap.size, 1, none⟩ (.slice pa ka ca)).setCell ⟨wc.heap.size, 2, none⟩ (.slice pb kb cb)) (.agg #[.bool sg, .slice pa ka ca, .slice pb kb cb]) (frac true N D) := hFd.out.store3 hXX _ _ _
             generalize hWN : (((wd.setCell ⟨wc.heap.size, 0, none⟩ (.bool sg)).setCell ⟨wc.heap.size, 1, none⟩ (.slice pa ka ca)).setCell ⟨wc.heap.size, 2, none⟩ (.slice pb kb cb)) = W5 at *
             show Exit.then _ _ Exit.normal _ W5
             clear hWN
             (try clear x0 x1 x2 y0 y1 y2)
             (try clear hXX)
             clear hRa hBa hKa hRb hBb hKb hRa2 hRc hBc hKc hRa3 hFd hBd hKd
             have hV5 := HV.out.1.below hK5
             have hA5 := HV.out.2.2.below hK5
             have hB5 := HV.out.2.1.trans (hK5.mono HV.out.2.1.size)
             clear hK5 HS
             generalize wc.heap.size = X at *)
          | (have hR5 : Var3 (((wd.setCell ⟨wb.heap.size, 0, none⟩ (.bool sg)).setCell ⟨wb.heap.size, 1, none⟩ (.slice pa ka ca)).setCell ⟨wb.heap.size, 2, none⟩ (.slice pb kb cb)) wb.heap.size (.bool sg) (.slice pa ka ca) (.slice pb kb cb) := hXX.store trivial trivial trivial
             have hK5 : Below W0.heap.size W0 (((wd.setCell ⟨wb.heap.size, 0, none⟩ (.bool sg)).setCell ⟨wb.heap.size, 1, none⟩ (.slice pa ka ca)).setCell ⟨wb.heap.size, 2, none⟩ (.slice pb kb cb)) := below_set3 hKd hKb.size
             have hF5 : QNorm (((wd.setCell ⟨wb.heap.size, 0, none⟩ (.bool sg)).setCell ⟨wb.heap.size, 1, none⟩ (.slice pa ka ca)).setCell ⟨wb.heap.size, 2, none⟩ (.slice pb kb cb)) (.agg #[.bool sg, .slice pa ka ca, .slice pb kb cb]) (frac true N D) := hFd.out.store3 hXX _ _ _
             generalize hWN : (((wd.setCell ⟨wb.heap.size, 0, none⟩ (.bool sg)).setCell ⟨wb.heap.size, 1, none⟩ (.slice pa ka ca)).setCell ⟨wb.heap.size, 2, none⟩ (.slice pb kb cb)) = W5 at *
             show Exit.then _ _ Exit.normal _ W5
             clear hWN
             (try clear x0 x1 x2 y0 y1 y2)
             (try clear hXX)
             clear hRa hBa hKa hRb hBb hKb hRa2 hRc hBc hKc hRa3 hFd hBd hKd
             have hV5 := HV.out.1.below hK5
             have hA5 := HV.out.2.2.below hK5
             have hB5 := HV.out.2.1.trans (hK5.mono HV.out.2.1.size)
             clear hK5 HS
             generalize wb.heap.size = X at *)
          | (have hR5 : Var3 (((wd.setCell ⟨wa.heap.size, 0, none⟩ (.bool sg)).setCell ⟨wa.heap.size, 1, none⟩ (.slice pa ka ca)).setCell ⟨wa.heap.size, 2, none⟩ (.slice pb kb cb)) wa.heap.size (.bool sg) (.slice pa ka ca) (.slice pb kb cb) := hXX.store trivial trivial trivial
             have hK5 : Below W0.heap.size W0 (((wd.setCell ⟨wa.heap.size, 0, none⟩ (.bool sg)).setCell ⟨wa.heap.size, 1, none⟩ (.slice pa ka ca)).setCell ⟨wa.heap.size, 2, none⟩ (.slice pb kb cb)) := below_set3 hKd hKa.size
             have hF5 : QNorm (((wd.setCell ⟨wa.heap.size, 0, none⟩ (.bool sg)).setCell ⟨wa.heap.size, 1, none⟩ (.slice pa ka ca)).setCell ⟨wa.heap.size, 2, none⟩ (.slice pb kb cb)) (.agg #[.bool sg, .slice pa ka ca, .slice pb kb cb]) (frac true N D) := hFd.out.store3 hXX _ _ _
             generalize hWN : (((wd.setCell ⟨wa.heap.size, 0, none⟩ (.bool sg)).setCell ⟨wa.heap.size, 1, none⟩ (.slice pa ka ca)).setCell ⟨wa.heap.size, 2, none⟩ (.slice pb kb cb)) = W5 at *
             show Exit.then _ _ Exit.normal _ W5
             clear hWN
             (try clear x0 x1 x2 y0 y1 y2)
             (try clear hXX)
             clear hRa hBa hKa hRb hBb hKb hRa2 hRc hBc hKc hRa3 hFd hBd hKd
             have hV5 := HV.out.1.below hK5
             have hA5 := HV.out.2.2.below hK5
             have hB5 := HV.out.2.1.trans (hK5.mono HV.out.2.1.size)
             clear hK5 HS
             generalize wa.heap.size = X at *)
          | (have hR5 : Var3 (((wd.setCell ⟨W0.heap.size, 0, none⟩ (.bool sg)).setCell ⟨W0.heap.size, 1, none⟩ (.slice pa ka ca)).setCell ⟨W0.heap.size, 2, none⟩ (.slice pb kb cb)) W0.heap.size (.bool sg) (.slice pa ka ca) (.slice pb kb cb) := hXX.store trivial trivial trivial
             have hK5 : Below W0.heap.size W0 (((wd.setCell ⟨W0.heap.size, 0, none⟩ (.bool sg)).setCell ⟨W0.heap.size, 1, none⟩ (.slice pa ka ca)).setCell ⟨W0.heap.size, 2, none⟩ (.slice pb kb cb)) := below_set3 hKd (Nat.le_refl _)
             have hF5 : QNorm (((wd.setCell ⟨W0.heap.size, 0, none⟩ (.bool sg)).setCell ⟨W0.heap.size, 1, none⟩ (.slice pa ka ca)).setCell ⟨W0.heap.size, 2, none⟩ (.slice pb kb cb)) (.agg #[.bool sg, .slice pa ka ca, .slice pb kb cb]) (frac true N D) := hFd.out.store3 hXX _ _ _
             generalize hWN : (((wd.setCell ⟨W0.heap.size, 0, none⟩ (.bool sg)).setCell ⟨W0.heap.size, 1, none⟩ (.slice pa ka ca)).setCell ⟨W0.heap.size, 2, none⟩ (.slice pb kb cb)) = W5 at *
             show Exit.then _ _ Exit.normal _ W5
             clear hWN
             (try clear x0 x1 x2 y0 y1 y2)
             (try clear hXX)
             clear hRa hBa hKa hRb hBb hKb hRa2 hRc hBc hKc hRa3 hFd hBd hKd
             have hV5 := HV.out.1.below hK5
             have hA5 := HV.out.2.2.below hK5
             have hB5 := HV.out.2.1.trans (hK5.mono HV.out.2.1.size)
             clear hK5 HS
             generalize W0.heap.size = X at *)
      all_goals
        have hq5 := hq.out.below hB5
        have hRb : (frac true N D).2.1 < B16 ^ 1000 ∧ (frac true N D).2.2 < B16 ^ 1000 := ⟨b_1000 (Nat.lt_of_le_of_lt (Nat.div_le_self _ _) (by rw [HND.out.1]; exact HBq.out.1)) (by omega), b_1000 (Nat.lt_of_le_of_lt (Nat.div_le_self _ _) (by rw [HND.out.2]; exact HBq.out.2.1)) (by omega)⟩
        have hRp : 0 < (frac true N D).2.2 := frac_pos (by rw [HND.out.2]; exact HBq.out.2.2)
        have hrc : frac true N D = rootc t n := by unfold rootc; rw [← HND.out.1, ← HND.out.2, ← HS1.out]
        have hIr : IsFr (frac true N D) := ⟨_, _, _, by rw [HND.out.2]; exact HBq.out.2.2, rfl⟩
        have hz : fcmp (fpow (frac true N D) n) t = 0 ↔ rootOk t n = true := (fcmp_zero_iff (hIr.pow n) HQ.out.1).trans (by rw [hrc]; exact rootc_pow HQ.out.1 (by have := HQ.out.2.2.2.2.1; omega) hgo.out)
        have HPw := hid (fun (W : World) (hW : Below W5.heap.size W5 W) => rPowerPos_any _ (frac true N D) n W (hF5.below hW) hRb.1 hRb.2 (by have := HQ.out.2.2.2.2.2; omega) hRp)
        have hPb : (fpow (frac true N D) n).2.1 < B16 ^ 300000 ∧ (fpow (frac true N D) n).2.2 < B16 ^ 300000 := ⟨pow_Bb hRb.1 (Nat.le_refl _) (by have := HQ.out.2.2.2.2.2; omega), pow_Bb hRb.2 (Nat.le_refl _) (by have := HQ.out.2.2.2.2.2; omega)⟩
        have HCm := hid (fun (W : World) (v1 : Value) (hW : Below W5.heap.size W5 W) (h1 : QNorm W v1 (fpow (frac true N D) n)) => rCmp_any v1 _ (fpow (frac true N D) n) t 300000 W h1 (hq5.below hW) hPb.1 hPb.2 (b_300k HQ.out.2.1 (by have := HQ.out.2.2.2.1; omega)) (b_300k HQ.out.2.2.1 (by have := HQ.out.2.2.2.1; omega)) (by omega) (hIr.pow n).pos HQ.out.1.pos)
        have HRF := hid (show rootOk t n = true → rootr t n = frac true N D from fun hk => by
          have hk2 := of_decide_eq_true hk
          rw [hrc, rootc_ok HQ.out.1 (by have := HQ.out.2.2.2.2.1; omega) hk2.1 hk2.2.1]
          unfold rootr
          rw [if_pos hk])
        obtain ⟨cq, hcq⟩ : ∃ c, c = fcmp (fpow (frac true N D) n) t := ⟨_, rfl⟩
        rw [← hcq] at HCm hz
        obtain ⟨tp, htp⟩ : ∃ c, c = fpow (frac true N D) n := ⟨_, rfl⟩
        rw [← htp] at HCm HPw
        obtain ⟨tf, htf⟩ : ∃ c, c = frac true N D := ⟨_, rfl⟩
        rw [← htf] at HRF hF5
        clear hcq htp hRb hRp hrc hIr hPb htf
        have HZ := hid hz
        have HE := hid (And.intro hV5 (And.intro hB5 (And.intro hR5 hF5)))
        have HS2 : Hid (∀ w', Below W5.heap.size W5 w' → (w'.cell? ⟨X, 0, none⟩ = some (.bool sg) ∧ w'.cell? ⟨X, 1, none⟩ = some (.slice pa ka ca) ∧ w'.cell? ⟨X, 2, none⟩ = some (.slice pb kb cb) ∧ w'.cell? ⟨w.heap.size, 0, none⟩ = some (.bool true) ∧ w'.cell? ⟨w.heap.size, 1, none⟩ = some (.slice p1 k1 c1) ∧ w'.cell? ⟨w.heap.size, 2, none⟩ = some (.slice p2 k2 c2) ∧ Hid (Below W5.heap.size W5 w'))) :=
          hid fun w' hb => ⟨(hR5.below hb).cells.1, (hR5.below hb).cells.2.1, (hR5.below hb).cells.2.2.1, (hA5.below hb).cells.1, (hA5.below hb).cells.2.1, (hA5.below hb).cells.2.2.1, hid hb⟩
        clear hz hV5 hA5 hB5 hq5 hR5 hF5 HV HB0 a0 a1 a2 HRn HRd HDa HMk
        by_cases hc0 : cq = 0
        · obtain rfl := hc0
          have HKt := hid (HZ.out.1 rfl)
          go_wp2_with fail
          go_region_held3 (fun w' => w'.cell? ⟨X, 0, none⟩ = some (.bool sg) ∧ w'.cell? ⟨X, 1, none⟩ = some (.slice pa ka ca) ∧ w'.cell? ⟨X, 2, none⟩ = some (.slice pb kb cb) ∧ w'.cell? ⟨w.heap.size, 0, none⟩ = some (.bool true) ∧ w'.cell? ⟨w.heap.size, 1, none⟩ = some (.slice p1 k1 c1) ∧ w'.cell? ⟨w.heap.size, 2, none⟩ = some (.slice p2 k2 c2) ∧ Hid (Below W5.heap.size W5 w'))
            (first | exact HS2.out _ (Below.refl _ _).drew | (exact HS2.out _ (by assumption)))
            (first
              | (go_at_call 82; refine (HPw.out _ (Below.refl _ _).drew).mono ?_; rintro e we ⟨v8, rfl, hQe, hBe⟩; have hKe := held_any (W0 := W5) (Below.refl _ _).drew hBe)
              | (go_at_call 81; refine (HCm.out _ _ hKe hQe).mono ?_; rintro e wf ⟨rfl, hBf⟩; have hKf := held_any hKe hBf))
          rename_i hHeld
          clear hHeld
          have hR6 := HE.out.2.2.1.below hKf
          have hV6 := HE.out.1.below hKf
          have hF6 := HE.out.2.2.2.below hKf
          have hB6 := HE.out.2.1.trans (hKf.mono HE.out.2.1.size)
          obtain ⟨x0, x1, x2, _⟩ := id hR6.cells
          obtain ⟨y0, y1, y2, z0, z1, z2⟩ := id hV6.cells
          have HG := hid (And.intro hV6 (And.intro hF6 hB6))
          clear hR6 hV6 hF6 hB6 hKf hKe hBf hBe hQe HCm HPw
          go_wp2_with fail
          exact rExact_ret rfl rfl (HG.out.1.store trivial trivial trivial) ⟨below_set3 HG.out.2.2 (Nat.le_succ _), RootResQ.yes HKt.out (HRF.out HKt.out) (HG.out.2.1.store3 HG.out.1 _ _ _)⟩
        · have hcb : (cq == 0) = false := by simpa using hc0
          have hcb2 : (cq != 0) = true := by simpa using hc0
          have HKt : Hid (rootOk t n = false) := hid (by
            cases hk : rootOk t n
            · rfl
            · exact absurd (HZ.out.2 hk) hc0)
          clear hc0
          go_wp2_with fail
          go_region_held3 (fun w' => w'.cell? ⟨X, 0, none⟩ = some (.bool sg) ∧ w'.cell? ⟨X, 1, none⟩ = some (.slice pa ka ca) ∧ w'.cell? ⟨X, 2, none⟩ = some (.slice pb kb cb) ∧ w'.cell? ⟨w.heap.size, 0, none⟩ = some (.bool true) ∧ w'.cell? ⟨w.heap.size, 1, none⟩ = some (.slice p1 k1 c1) ∧ w'.cell? ⟨w.heap.size, 2, none⟩ = some (.slice p2 k2 c2) ∧ Hid (Below W5.heap.size W5 w'))
            (first | exact HS2.out _ (Below.refl _ _).drew | (exact HS2.out _ (by assumption)))
            (first
              | (go_at_call 82; refine (HPw.out _ (Below.refl _ _).drew).mono ?_; rintro e we ⟨v8, rfl, hQe, hBe⟩; have hKe := held_any (W0 := W5) (Below.refl _ _).drew hBe)
              | (go_at_call 81; refine (HCm.out _ _ hKe hQe).mono ?_; rintro e wf ⟨rfl, hBf⟩; have hKf := held_any hKe hBf))
          rename_i hHeld
          clear hHeld
          have HV6 := hid (And.intro (HE.out.1.below hKf) (HE.out.2.1.trans (hKf.mono HE.out.2.1.size)))
          clear hKf hKe hBf hBe hQe HCm HPw
          go_wp2_with fail
          refine (HI.out _).mono ?_
          rintro e w7 ⟨sg', pa', ka', ca', pb', kb', cb', rfl, hF7, hB7⟩
          have hV7 := HV6.out.1.below hB7
          obtain ⟨y0, y1, y2, z0, z1, z2⟩ := id hV7.cells
          have HG := hid (And.intro hV7 (And.intro hF7.out (HV6.out.2.trans (hB7.mono HV6.out.2.size))))
          clear hV7 hF7 hB7
          go_wp2_with fail
          exact rExact_ret rfl rfl (HG.out.1.store trivial trivial trivial) ⟨below_set3 HG.out.2.2 (Nat.le_succ _), RootResQ.no HKt.out (HG.out.2.1.store3 HG.out.1 _ _ _)⟩
end Go.Proofs.YtnoonhomjnpbjaaDoor
