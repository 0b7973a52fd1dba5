/- The law NumberBetween. -/
import Derived.Test.YtppllgnoniaafaaDoorBetM
namespace Go.Proofs.YtppllgnoniaafaaDoor
open Go.RowKit Dg

theorem v_store {w : World} {B : Nat} {x : Bool} {p q : Option Addr} {k c l d : Nat} (h : Var3 w B (.bool false) (.slice none 0 0) (.slice none 0 0)) : Var3 (((w.setCell ⟨B, 0, none⟩ (.bool x)).setCell ⟨B, 1, none⟩ (.slice p k c)).setCell ⟨B, 2, none⟩ (.slice q l d)) B (.bool x) (.slice p k c) (.slice q l d) := h.store trivial trivial trivial
theorem v_alloc {w : World} {x : Bool} {p q : Option Addr} {k c l d t : Nat} : Var3 (w.alloc (.cells #[.bool x, .slice p k c, .slice q l d] t)) w.heap.size (.bool x) (.slice p k c) (.slice q l d) := Var3.alloc w t trivial trivial trivial
theorem v_alloc2 {w : World} {o : Obj} {x : Bool} {p q : Option Addr} {k c l d t : Nat} : Var3 ((w.alloc o).alloc (.cells #[.bool x, .slice p k c, .slice q l d] t)) (w.heap.size + 1) (.bool x) (.slice p k c) (.slice q l d) := Var3.alloc2 w o t trivial trivial trivial
theorem v_below {w : World} {o : Obj} {B : Nat} {x y z : Value} (h : Var3 w B x y z) : Var3 (w.alloc o) B x y z := h.below ((Below.refl _ _).alloc (Nat.le_refl _) _)
theorem q_alloc {w : World} {o : Obj} {v : Value} {t : Bool × Nat × Nat} (h : QNorm w v t) : QNorm (w.alloc o) v t := h.below ((Below.refl _ _).alloc (Nat.le_refl _) _)
theorem q_store {w : World} {B : Nat} {v : Value} {t : Bool × Nat × Nat} {x y z : Value} (h : QNorm w v t) (hV : Var3 w B (.bool false) (.slice none 0 0) (.slice none 0 0)) : QNorm (((w.setCell ⟨B, 0, none⟩ x).setCell ⟨B, 1, none⟩ y).setCell ⟨B, 2, none⟩ z) v t := h.store3 hV x y z
theorem q_parts {w : World} {s : Bool} {a b : Value} {t : Bool × Nat × Nat} (h : QNorm w (.agg #[.bool s, a, b]) t) : Rep B16 w a t.2.1 ∧ Rep B16 w b t.2.2 := by
  obtain ⟨vn, vd, he, h1, h2⟩ := h
  simp only [Value.agg.injEq, Array.mk.injEq, List.cons.injEq, and_true] at he
  obtain ⟨_, rfl, rfl⟩ := he
  exact ⟨h1, h2⟩
theorem leaf_world {R : Exit → Act → World → Prop} {a : Act} {W : World} {p : World → Prop} (hp : p W) (h : ∀ W', p W' → R .normal a W') : R .normal a W := h W hp
theorem cmp3_le0 {a b : Nat} (h : a ≤ b) : cmp3 a b ≤ 0 := by unfold cmp3; rw [if_neg (show ¬ b < a by omega)]; split <;> decide
theorem w_16 {x : Nat} (h : x < W32 ^ 64) : x < B16 ^ 1000000000 := by
  rw [show (W32 : Nat) = B16 ^ 2 from rfl, ← Nat.pow_mul] at h
  exact lt_16 h (by omega)

set_option maxHeartbeats 16000000 in
set_option maxRecDepth 100000 in
theorem NumberBetween_any (vx vy vz : Value) (x y z : Bool × Nat × Nat) (w : World) (hx : NRep w vx x) (hy : NRep w vy y) (hz : NRep w vz z) (ht : TabOk w) :
    Calls Tryd.prog 8 #[vx, vy, vz] w fun e w' => e = .returned (.bool true) ∧ Below w.heap.size w w' := by
  have HX := hid hx
  have HY := hid hy
  have HZ := hid hz
  obtain ⟨_, _, rfl, ⟨pa, ka, ca, rfl, _⟩, ⟨pb, kb, cb, rfl, _⟩⟩ := hx
  obtain ⟨_, _, rfl, ⟨pc, kc, cc, rfl, _⟩, ⟨pd, kd, cd, rfl, _⟩⟩ := hy
  obtain ⟨_, _, rfl, ⟨pe, ke, ce, rfl, _⟩, ⟨pf, kf, cf, rfl, _⟩⟩ := hz
  obtain ⟨sx, hsx⟩ : ∃ s, s = x.1 := ⟨_, rfl⟩
  obtain ⟨sy, hsy⟩ : ∃ s, s = y.1 := ⟨_, rfl⟩
  obtain ⟨sz, hsz⟩ : ∃ s, s = z.1 := ⟨_, rfl⟩
  have hal := below_alloc3 w (.cells #[.bool sx, .slice pa ka ca, .slice pb kb cb] 24) (.cells #[.bool sy, .slice pc kc cc, .slice pd kd cd] 24) (.cells #[.bool sz, .slice pe ke ce, .slice pf kf cf] 24)
  have hV := ((Var3.alloc w (x := .bool sx) (y := .slice pa ka ca) (z := .slice pb kb cb) 24 trivial trivial trivial).below ((Below.refl _ _).alloc (Nat.le_refl _) (.cells #[.bool sy, .slice pc kc cc, .slice pd kd cd] 24))).below ((Below.refl _ _).alloc (Nat.le_refl _) (.cells #[.bool sz, .slice pe ke ce, .slice pf kf cf] 24))
  have hV2 := (Var3.alloc2 w (.cells #[.bool sx, .slice pa ka ca, .slice pb kb cb] 24) (x := .bool sy) (y := .slice pc kc cc) (z := .slice pd kd cd) 24 trivial trivial trivial).below ((Below.refl _ _).alloc (Nat.le_refl _) (.cells #[.bool sz, .slice pe ke ce, .slice pf kf cf] 24))
  have hV3 := Var3.alloc3 w (.cells #[.bool sx, .slice pa ka ca, .slice pb kb cb] 24) (.cells #[.bool sy, .slice pc kc cc, .slice pd kd cd] 24) (x := .bool sz) (y := .slice pe ke ce) (z := .slice pf kf cf) 24 trivial trivial trivial
  rw [← hsx] at HX ⊢
  rw [← hsy] at HY ⊢
  rw [← hsz] at HZ ⊢
  clear hsx hsy hsz
  have HX0 := hid (HX.out.below hal)
  have HY0 := hid (HY.out.below hal)
  have HZ0 := hid (HZ.out.below hal)
  have HT0 := hid (ht.below hal)
  have HB := hid hal
  have HVx := hid hV
  have HVy := hid hV2
  have HVz : Hid (Var3 (((w.alloc (.cells #[.bool sx, .slice pa ka ca, .slice pb kb cb] 24)).alloc (.cells #[.bool sy, .slice pc kc cc, .slice pd kd cd] 24)).alloc (.cells #[.bool sz, .slice pe ke ce, .slice pf kf cf] 24)) (w.heap.size + 1 + 1) (.bool sz) (.slice pe ke ce) (.slice pf kf cf)) := hid hV3
  clear HX HY HZ ht hal hV hV2 hV3
  obtain ⟨g, hg⟩ : ∃ g, g = slc x y := ⟨_, rfl⟩
  obtain ⟨r, hr⟩ : ∃ g, g = resT (slc x y) (fpl (fr x) (fr y)) := ⟨_, rfl⟩
  have HN := hid (fun (W : World) (v u : Value) (h : NRep W v x) (hy : NRep W u y) (ht : TabOk W) => (nSimplest_any v _ _ _ u _ _ _ W h hy ht).mono (R' := fun e w' => Below W.heap.size W w' ∧ URes w' e g r) fun _ _ hR => ⟨hR.1, by rw [hg, hr]; exact FRes.uni hR.2 (fun h => (ncode_zero h).2.2.2)⟩)
  have HLaw := hid (fun (h : g = 0) => between_law (r := r) (hg.symm.trans h) (by rw [hr, hg.symm.trans h]; rfl))
  have HC1 := hid (fun (W : World) (v u : Value) (h : NRep W v x) (hy : NRep W u r) (ht : TabOk W) => nCompare_any v u x r W h hy ht)
  have HC2 := hid (fun (W : World) (v u : Value) (h : NRep W v r) (hy : NRep W u y) (ht : TabOk W) => nCompare_any v u r y W h hy ht)
  have HC3 := hid (fun (W : World) (v u : Value) (h : NRep W v x) (hy : NRep W u z) (ht : TabOk W) => nCompare_any v u x z W h hy ht)
  have HC4 := hid (fun (W : World) (v u : Value) (h : NRep W v z) (hy : NRep W u y) (ht : TabOk W) => nCompare_any v u z y W h hy ht)
  clear hg hr
  go_enter Tryd.func8, Tryd.ntmps8
  go_upto_region 1 with fail
  generalize ((w.alloc (.cells #[.bool sx, .slice pa ka ca, .slice pb kb cb] 24)).alloc (.cells #[.bool sy, .slice pc kc cc, .slice pd kd cd] 24)).alloc (.cells #[.bool sz, .slice pe ke ce, .slice pf kf cf] 24) = W0 at *
  obtain ⟨a0, a1, a2, _⟩ := HVx.out.cells
  obtain ⟨b0, b1, b2, _⟩ := HVy.out.cells
  go_wp2_with fail
  refine (HN.out _ _ _ HX0.out HY0.out HT0.out).mono ?_
  rintro e w1 ⟨hB1, sn, pn, kn, cn, qn, ln, dn, rfl, hF⟩
  clear a0 a1 a2 b0 b1 b2
  go_upto_region 2 with fail
  have hal := (Below.refl w1.heap.size w1).alloc (Nat.le_refl _) (.cells #[.bool sn, .slice pn kn cn, .slice qn ln dn] 24)
  have hV := Var3.alloc w1 (x := .bool sn) (y := .slice pn kn cn) (z := .slice qn ln dn) 24 trivial trivial trivial
  have hst := held_any hB1 hal
  have HF := hid (hF.out.below hal)
  clear hB1 hal hF
  generalize w1.alloc (.cells #[.bool sn, .slice pn kn cn, .slice qn ln dn] 24) = V1 at *
  generalize w1.heap.size = B1 at *
  replace HVx := hid (HVx.out.below hst)
  replace HVy := hid (HVy.out.below hst)
  replace HVz := hid (HVz.out.below hst)
  replace HX0 := hid (HX0.out.below hst)
  replace HY0 := hid (HY0.out.below hst)
  replace HZ0 := hid (HZ0.out.below hst)
  replace HT0 := hid (HT0.out.below hst)
  replace HB := hid (HB.out.trans (hst.mono HB.out.size))
  clear hst
  have HV1 := hid hV
  clear hV
  by_cases hg0 : g = 0
  case neg =>
    have hgb : (g == 0) = false := by simpa using hg0
    have HAw := hid (awake_any _ HT0.out)
    go_wp2_with fail
    refine HAw.out.mono ?_
    rintro e wz ⟨rfl, hst⟩
    have HZZ := hid (HB.out.trans (hst.mono HB.out.size))
    clear hst
    go_wp2_with fail
    go_ret
    exact ⟨rfl, HZZ.out⟩
  subst hg0
  obtain ⟨e1, e2, f1, f2, hsm, hfr, hlz⟩ := HLaw.out rfl
  have HLZ := hid (And.intro hsm (And.intro hfr hlz))
  clear HLaw hsm hfr hlz
  rw [e1] at HC1
  rw [e2] at HC2
  obtain ⟨l1, hl1⟩ : ∃ l, l = cmt x r := ⟨_, rfl⟩
  obtain ⟨l2, hl2⟩ : ∃ l, l = cmt r y := ⟨_, rfl⟩
  rw [← hl1] at HC1 f1
  rw [← hl2] at HC2 f2
  have d1 : decide (0 < l1) = false := decide_eq_false (by omega)
  have d2 : decide (0 < l2) = false := decide_eq_false (by omega)
  clear hl1 hl2 e1 e2 f1 f2
  obtain ⟨a0, a1, a2, _⟩ := HVx.out.cells
  obtain ⟨b0, b1, b2, _⟩ := HV1.out.cells
  go_wp2_with fail
  refine (HC1.out _ _ _ HX0.out HF.out HT0.out).mono ?_
  rintro e w2 ⟨rfl, hst⟩
  clear a0 a1 a2 b0 b1 b2
  replace HVx := hid (HVx.out.below hst)
  replace HVy := hid (HVy.out.below hst)
  replace HVz := hid (HVz.out.below hst)
  replace HX0 := hid (HX0.out.below hst)
  replace HY0 := hid (HY0.out.below hst)
  replace HZ0 := hid (HZ0.out.below hst)
  replace HT0 := hid (HT0.out.below hst)
  replace HV1 := hid (HV1.out.below hst)
  replace HF := hid (HF.out.below hst)
  replace HB := hid (HB.out.trans (hst.mono HB.out.size))
  clear hst
  obtain ⟨a0, a1, a2, _⟩ := HV1.out.cells
  obtain ⟨b0, b1, b2, _⟩ := HVy.out.cells
  go_wp2_with fail
  refine (HC2.out _ _ _ HF.out HY0.out HT0.out).mono ?_
  rintro e w3 ⟨rfl, hst⟩
  clear a0 a1 a2 b0 b1 b2
  replace HVx := hid (HVx.out.below hst)
  replace HVy := hid (HVy.out.below hst)
  replace HVz := hid (HVz.out.below hst)
  replace HX0 := hid (HX0.out.below hst)
  replace HY0 := hid (HY0.out.below hst)
  replace HZ0 := hid (HZ0.out.below hst)
  replace HT0 := hid (HT0.out.below hst)
  replace HV1 := hid (HV1.out.below hst)
  replace HF := hid (HF.out.below hst)
  replace HB := hid (HB.out.trans (hst.mono HB.out.size))
  clear hst
  obtain ⟨l3, hl3⟩ : ∃ l, l = cmt x z := ⟨_, rfl⟩
  obtain ⟨l4, hl4⟩ : ∃ l, l = cmt z y := ⟨_, rfl⟩
  obtain ⟨c3, hc3⟩ : ∃ l, l = cmc x z := ⟨_, rfl⟩
  obtain ⟨c4, hc4⟩ : ∃ l, l = cmc z y := ⟨_, rfl⟩
  have hr3 : c3 = 0 ∨ c3 = 1 := by rw [hc3]; exact cmc_range _ _
  have hr4 : c4 = 0 ∨ c4 = 1 := by rw [hc4]; exact cmc_range _ _
  have hall : c3 = 0 → c4 = 0 → l3 ≤ 0 → l4 ≤ 0 → large z.2.1 z.2.2 = false ∧ (fpl (fr x) (fr y)).2.2 ≤ (fr z).2.2 ∧ (fpl (fr x) (fr y)).2.1 ≤ (fr z).2.1 := by
    rw [hc3, hc4, hl3, hl4]
    exact HLZ.out.2.2 z
  have HALL := hid hall
  rw [← hl3, ← hc3] at HC3
  rw [← hl4, ← hc4] at HC4
  clear hl3 hl4 hc3 hc4 hall
  obtain ⟨a0, a1, a2, _⟩ := HVx.out.cells
  obtain ⟨b0, b1, b2, _⟩ := HVz.out.cells
  go_wp2_with fail
  refine (HC3.out _ _ _ HX0.out HZ0.out HT0.out).mono ?_
  rintro e w4 ⟨rfl, hst⟩
  clear a0 a1 a2 b0 b1 b2
  replace HVx := hid (HVx.out.below hst)
  replace HVy := hid (HVy.out.below hst)
  replace HVz := hid (HVz.out.below hst)
  replace HX0 := hid (HX0.out.below hst)
  replace HY0 := hid (HY0.out.below hst)
  replace HZ0 := hid (HZ0.out.below hst)
  replace HT0 := hid (HT0.out.below hst)
  replace HV1 := hid (HV1.out.below hst)
  replace HF := hid (HF.out.below hst)
  replace HB := hid (HB.out.trans (hst.mono HB.out.size))
  clear hst
  obtain ⟨a0, a1, a2, _⟩ := HVz.out.cells
  obtain ⟨b0, b1, b2, _⟩ := HVy.out.cells
  go_wp2_with fail
  refine (HC4.out _ _ _ HZ0.out HY0.out HT0.out).mono ?_
  rintro e w5 ⟨rfl, hst⟩
  clear a0 a1 a2 b0 b1 b2
  replace HVx := hid (HVx.out.below hst)
  replace HVy := hid (HVy.out.below hst)
  replace HVz := hid (HVz.out.below hst)
  replace HX0 := hid (HX0.out.below hst)
  replace HY0 := hid (HY0.out.below hst)
  replace HZ0 := hid (HZ0.out.below hst)
  replace HT0 := hid (HT0.out.below hst)
  replace HV1 := hid (HV1.out.below hst)
  replace HF := hid (HF.out.below hst)
  replace HB := hid (HB.out.trans (hst.mono HB.out.size))
  clear hst
  rcases hr3 with rfl | rfl
  case inr =>
    have HAw := hid (awake_any _ HT0.out)
    go_wp2_with fail
    refine HAw.out.mono ?_
    rintro e wz ⟨rfl, hst⟩
    have HZZ := hid (HB.out.trans (hst.mono HB.out.size))
    clear hst
    go_wp2_with fail
    go_ret
    exact ⟨rfl, HZZ.out⟩
  rcases hr4 with rfl | rfl
  case inr =>
    have HAw := hid (awake_any _ HT0.out)
    go_wp2_with fail
    refine HAw.out.mono ?_
    rintro e wz ⟨rfl, hst⟩
    have HZZ := hid (HB.out.trans (hst.mono HB.out.size))
    clear hst
    go_wp2_with fail
    go_ret
    exact ⟨rfl, HZZ.out⟩
  by_cases h3 : 0 < l3
  case pos =>
    have d3 : decide (0 < l3) = true := decide_eq_true h3
    have HAw := hid (awake_any _ HT0.out)
    go_wp2_with fail
    refine HAw.out.mono ?_
    rintro e wz ⟨rfl, hst⟩
    have HZZ := hid (HB.out.trans (hst.mono HB.out.size))
    clear hst
    go_wp2_with fail
    go_ret
    exact ⟨rfl, HZZ.out⟩
  by_cases h4 : 0 < l4
  case pos =>
    have d3 : decide (0 < l3) = false := decide_eq_false h3
    have d4 : decide (0 < l4) = true := decide_eq_true h4
    have HAw := hid (awake_any _ HT0.out)
    go_wp2_with fail
    refine HAw.out.mono ?_
    rintro e wz ⟨rfl, hst⟩
    have HZZ := hid (HB.out.trans (hst.mono HB.out.size))
    clear hst
    go_wp2_with fail
    go_ret
    exact ⟨rfl, HZZ.out⟩
  have d3 : decide (0 < l3) = false := decide_eq_false h3
  have d4 : decide (0 < l4) = false := decide_eq_false h4
  have HFin := hid (HALL.out rfl rfl (by omega) (by omega))
  clear HALL h3 h4
  have HOa := hid (fun (W : World) (hW : Below w5.heap.size w5 W) => rOfF_any _ r W (HF.out.below hW) HLZ.out.1)
  rw [HLZ.out.2.1] at HOa
  have HOz := hid (fun (W : World) (hW : Below w5.heap.size w5 W) => rOfF_any _ z W (HZ0.out.below hW) HFin.out.1)
  have HS : Hid (∀ w', Below w5.heap.size w5 w' → (w'.cell? ⟨B1, 0, none⟩ = some (.bool sn) ∧ w'.cell? ⟨B1, 1, none⟩ = some (.slice pn kn cn) ∧ w'.cell? ⟨B1, 2, none⟩ = some (.slice qn ln dn) ∧ w'.cell? ⟨w.heap.size + 1 + 1, 0, none⟩ = some (.bool sz) ∧ w'.cell? ⟨w.heap.size + 1 + 1, 1, none⟩ = some (.slice pe ke ce) ∧ w'.cell? ⟨w.heap.size + 1 + 1, 2, none⟩ = some (.slice pf kf cf) ∧ Hid (Below w5.heap.size w5 w'))) :=
    hid fun w' hb => ⟨(HV1.out.below hb).cells.1, (HV1.out.below hb).cells.2.1, (HV1.out.below hb).cells.2.2.1, (HVz.out.below hb).cells.1, (HVz.out.below hb).cells.2.1, (HVz.out.below hb).cells.2.2.1, hid hb⟩
  go_wp2_with fail
  go_region_held3 (fun w' => w'.cell? ⟨B1, 0, none⟩ = some (.bool sn) ∧ w'.cell? ⟨B1, 1, none⟩ = some (.slice pn kn cn) ∧ w'.cell? ⟨B1, 2, none⟩ = some (.slice qn ln dn) ∧ w'.cell? ⟨w.heap.size + 1 + 1, 0, none⟩ = some (.bool sz) ∧ w'.cell? ⟨w.heap.size + 1 + 1, 1, none⟩ = some (.slice pe ke ce) ∧ w'.cell? ⟨w.heap.size + 1 + 1, 2, none⟩ = some (.slice pf kf cf) ∧ Hid (Below w5.heap.size w5 w'))
    ((refine HS.out _ ?_; first | (with_reducible exact (by assumption)) | (with_reducible exact (Below.refl _ _).drew) | (with_reducible exact below_ad (held6 (N := w5.heap.size) (W0 := w5) (by assumption)) _) | (with_reducible exact below_al1 (held6 (N := w5.heap.size) (W0 := w5) (by assumption)) _) | (with_reducible exact (below_alloc2 w5 _ _).drew) | (with_reducible exact below_al1 hKb _) | (with_reducible exact below_al1 (below_al1 hKb _) _) | (with_reducible exact below_set3 (held6 (N := w5.heap.size) (W0 := w5) (by assumption)) (hKa.size)) | (with_reducible exact below_set3 (W := ((((_ : World).setCell _ _).setCell _ _).setCell _ _)) (held6 (N := w5.heap.size) (W0 := w5) (by assumption)) (hKa.size)) | (with_reducible exact below_set3 (held6 (N := w5.heap.size) (W0 := w5) (by assumption)) (hKb.size)) | (with_reducible exact below_set3 (W := ((((_ : World).setCell _ _).setCell _ _).setCell _ _)) (held6 (N := w5.heap.size) (W0 := w5) (by assumption)) (hKb.size)) | (with_reducible exact below_set3 (held6 (N := w5.heap.size) (W0 := w5) (by assumption)) (Nat.le_succ_of_le hKa.size)) | (with_reducible exact below_set3 (W := ((((_ : World).setCell _ _).setCell _ _).setCell _ _)) (held6 (N := w5.heap.size) (W0 := w5) (by assumption)) (Nat.le_succ_of_le hKa.size)) | (with_reducible exact below_set3 (held6 (N := w5.heap.size) (W0 := w5) (by assumption)) (Nat.le_succ_of_le hKb.size)) | (with_reducible exact below_set3 (W := ((((_ : World).setCell _ _).setCell _ _).setCell _ _)) (held6 (N := w5.heap.size) (W0 := w5) (by assumption)) (Nat.le_succ_of_le hKb.size)) | (with_reducible exact below_set3 (held6 (N := w5.heap.size) (W0 := w5) (by assumption)) (Nat.le_refl _)) | (with_reducible exact below_set3 (W := ((((_ : World).setCell _ _).setCell _ _).setCell _ _)) (held6 (N := w5.heap.size) (W0 := w5) (by assumption)) (Nat.le_refl _)) | (with_reducible exact below_set3 (held6 (N := w5.heap.size) (W0 := w5) (by assumption)) (Nat.le_succ _)) | (with_reducible exact below_set3 (W := ((((_ : World).setCell _ _).setCell _ _).setCell _ _)) (held6 (N := w5.heap.size) (W0 := w5) (by assumption)) (Nat.le_succ _)) | (with_reducible exact held6 (N := w5.heap.size) (W0 := w5) (by assumption)) | (exact (by assumption)) | (exact (Below.refl _ _).drew) | (exact below_ad (held6 (N := w5.heap.size) (W0 := w5) (by assumption)) _) | (exact below_al1 (held6 (N := w5.heap.size) (W0 := w5) (by assumption)) _) | (exact (below_alloc2 w5 _ _).drew) | (exact below_al1 hKb _) | (exact below_al1 (below_al1 hKb _) _) | (exact below_set3 (held6 (N := w5.heap.size) (W0 := w5) (by assumption)) (hKa.size)) | (exact below_set3 (W := ((((_ : World).setCell _ _).setCell _ _).setCell _ _)) (held6 (N := w5.heap.size) (W0 := w5) (by assumption)) (hKa.size)) | (exact below_set3 (held6 (N := w5.heap.size) (W0 := w5) (by assumption)) (hKb.size)) | (exact below_set3 (W := ((((_ : World).setCell _ _).setCell _ _).setCell _ _)) (held6 (N := w5.heap.size) (W0 := w5) (by assumption)) (hKb.size)) | (exact below_set3 (held6 (N := w5.heap.size) (W0 := w5) (by assumption)) (Nat.le_succ_of_le hKa.size)) | (exact below_set3 (W := ((((_ : World).setCell _ _).setCell _ _).setCell _ _)) (held6 (N := w5.heap.size) (W0 := w5) (by assumption)) (Nat.le_succ_of_le hKa.size)) | (exact below_set3 (held6 (N := w5.heap.size) (W0 := w5) (by assumption)) (Nat.le_succ_of_le hKb.size)) | (exact below_set3 (W := ((((_ : World).setCell _ _).setCell _ _).setCell _ _)) (held6 (N := w5.heap.size) (W0 := w5) (by assumption)) (Nat.le_succ_of_le hKb.size)) | (exact below_set3 (held6 (N := w5.heap.size) (W0 := w5) (by assumption)) (Nat.le_refl _)) | (exact below_set3 (W := ((((_ : World).setCell _ _).setCell _ _).setCell _ _)) (held6 (N := w5.heap.size) (W0 := w5) (by assumption)) (Nat.le_refl _)) | (exact below_set3 (held6 (N := w5.heap.size) (W0 := w5) (by assumption)) (Nat.le_succ _)) | (exact below_set3 (W := ((((_ : World).setCell _ _).setCell _ _).setCell _ _)) (held6 (N := w5.heap.size) (W0 := w5) (by assumption)) (Nat.le_succ _))))
    (first
      | (go_at_call_of 21 kn; refine (HOa.out _ (held6 (N := w5.heap.size) (W0 := w5) (by assumption))).mono ?_; rintro e wa ⟨s5, p5, k5, c5, p6, k6, c6, rfl, hQ1, hBa⟩; have hKa := held_any (held6 (N := w5.heap.size) (W0 := w5) (by assumption)) hBa; (try (have F0 := ((Var3.alloc w5 (x := .bool false) (y := .slice none 0 0) (z := .slice none 0 0) 40 trivial trivial trivial).below (Below.refl _ _).drew).below hBa)); (try (have F0 := (((Var3.alloc w5 (x := .bool false) (y := .slice none 0 0) (z := .slice none 0 0) 40 trivial trivial trivial).below ((Below.refl _ _).alloc (Nat.le_refl _) (.cells #[.bool false, .slice none 0 0, .slice none 0 0] 40))).below (Below.refl _ _).drew).below hBa; have F1 := ((Var3.alloc2 w5 (.cells #[.bool false, .slice none 0 0, .slice none 0 0] 40) (x := .bool false) (y := .slice none 0 0) (z := .slice none 0 0) 40 trivial trivial trivial).below (Below.refl _ _).drew).below hBa)))
      | (go_at_call_of 21 ke; refine (HOz.out _ (held6 (N := w5.heap.size) (W0 := w5) (by assumption))).mono ?_; rintro e wb ⟨s7, p7, k7, c7, p8, k8, c8, rfl, hQ2, hBb⟩; have hKb := held_any (held6 (N := w5.heap.size) (W0 := w5) (by assumption)) hBb; (try (replace F0 := F0.below hBb; obtain ⟨x0, x1, x2, x3, x4, x5⟩ := id F0.cells)); (try (replace F1 := F1.below hBb; obtain ⟨y0, y1, y2, y3, y4, y5⟩ := id F1.cells)); (try (replace F0 := (F0.below ((Below.refl _ _).alloc (Nat.le_refl _) (.cells #[.bool false, .slice none 0 0, .slice none 0 0] 40))).below hBb; obtain ⟨x0, x1, x2, x3, x4, x5⟩ := id F0.cells)); (try (have G0 := (Var3.alloc wa (x := .bool false) (y := .slice none 0 0) (z := .slice none 0 0) 40 trivial trivial trivial).below hBb; obtain ⟨u0, u1, u2, u3, u4, u5⟩ := id G0.cells)); (try (have G0 := ((Var3.alloc wa (x := .bool false) (y := .slice none 0 0) (z := .slice none 0 0) 40 trivial trivial trivial).below ((Below.refl _ _).alloc (Nat.le_refl _) (.cells #[.bool false, .slice none 0 0, .slice none 0 0] 40))).below hBb; have G1 := (Var3.alloc2 wa (.cells #[.bool false, .slice none 0 0, .slice none 0 0] 40) (x := .bool false) (y := .slice none 0 0) (z := .slice none 0 0) 40 trivial trivial trivial).below hBb; obtain ⟨u0, u1, u2, u3, u4, u5⟩ := id G0.cells; obtain ⟨v0, v1, v2, v3, v4, v5⟩ := id G1.cells)); (try (have : w5.heap.size ≠ wa.heap.size := (by have h1 := hBa.size; have h2 := hBb.size; simp only [World.size_alloc, World.size_drew] at h1 h2; omega); have := this.symm)); (try (have : w5.heap.size ≠ wb.heap.size := (by have h1 := hBa.size; have h2 := hBb.size; simp only [World.size_alloc, World.size_drew] at h1 h2; omega); have := this.symm)); (try (have : w5.heap.size + 1 ≠ wa.heap.size := (by have h1 := hBa.size; have h2 := hBb.size; simp only [World.size_alloc, World.size_drew] at h1 h2; omega); have := this.symm)); (try (have : w5.heap.size + 1 ≠ wb.heap.size := (by have h1 := hBa.size; have h2 := hBb.size; simp only [World.size_alloc, World.size_drew] at h1 h2; omega); have := this.symm)); (try (have : wa.heap.size ≠ wb.heap.size := (by have h1 := hBa.size; have h2 := hBb.size; simp only [World.size_alloc, World.size_drew] at h1 h2; omega); have := this.symm)); (try (have : wa.heap.size + 1 ≠ wb.heap.size := (by have h1 := hBa.size; have h2 := hBb.size; simp only [World.size_alloc, World.size_drew] at h1 h2; omega); have := this.symm)); (try (have : w5.heap.size ≠ wa.heap.size + 1 := (by have h1 := hBa.size; have h2 := hBb.size; simp only [World.size_alloc, World.size_drew] at h1 h2; omega); have := this.symm)); (try (have : w5.heap.size ≠ wb.heap.size + 1 := (by have h1 := hBa.size; have h2 := hBb.size; simp only [World.size_alloc, World.size_drew] at h1 h2; omega); have := this.symm)); (try (have : wa.heap.size ≠ wb.heap.size + 1 := (by have h1 := hBa.size; have h2 := hBb.size; simp only [World.size_alloc, World.size_drew] at h1 h2; omega); have := this.symm)); (try (have F2 := F0.below ((Below.refl _ _).alloc (Nat.le_refl _) (.cells #[.bool false, .slice none 0 0, .slice none 0 0] 40)); obtain ⟨xx0, xx1, xx2, xx3, xx4, xx5⟩ := id F2.cells)); (try (have G2 := G0.below ((Below.refl _ _).alloc (Nat.le_refl _) (.cells #[.bool false, .slice none 0 0, .slice none 0 0] 40)); obtain ⟨uu0, uu1, uu2, uu3, uu4, uu5⟩ := id G2.cells)); (try (have F3 := F0.below ((Below.refl wb.heap.size wb).alloc (Nat.le_refl _) (.cells #[.bool s5, .slice p5 k5 c5, .slice p6 k6 c6] 40)); obtain ⟨xy0, xy1, xy2, xy3, xy4, xy5⟩ := id F3.cells)); (try (have G3 := G0.below ((Below.refl wb.heap.size wb).alloc (Nat.le_refl _) (.cells #[.bool s5, .slice p5 k5 c5, .slice p6 k6 c6] 40)); obtain ⟨uv0, uv1, uv2, uv3, uv4, uv5⟩ := id G3.cells))))
  · rename_i hHeld
    have HKX := held6 (N := w5.heap.size) (W0 := w5) hHeld
    clear hHeld
    have hQa : QNorm wb (.agg #[.bool s5, .slice p5 k5 c5, .slice p6 k6 c6]) (fpl (fr x) (fr y)) := by first | exact hQ1.out.below hBb | exact (q_alloc hQ1.out).below hBb | exact (q_alloc (q_alloc hQ1.out)).below hBb
    have hQb := hQ2.out
    refine leaf_world (p := fun W => (Var3 W (wb.heap.size) (.bool s5) (.slice p5 k5 c5) (.slice p6 k6 c6) ∧ Var3 W (wb.heap.size + 1) (.bool s7) (.slice p7 k7 c7) (.slice p8 k8 c8)) ∧ QNorm W (.agg #[.bool s5, .slice p5 k5 c5, .slice p6 k6 c6]) (fpl (fr x) (fr y)) ∧ QNorm W (.agg #[.bool s7, .slice p7 k7 c7, .slice p8 k8 c8]) (fr z) ∧ Below w5.heap.size w5 W) ⟨⟨by repeat (first | with_reducible assumption | with_reducible exact v_alloc | with_reducible exact v_alloc2 | with_reducible refine v_store ?_ | with_reducible refine Var3.other ?_ (by first | assumption | omega) _ _ _ | with_reducible refine v_below ?_), by repeat (first | with_reducible assumption | with_reducible exact v_alloc | with_reducible exact v_alloc2 | with_reducible refine v_store ?_ | with_reducible refine Var3.other ?_ (by first | assumption | omega) _ _ _ | with_reducible refine v_below ?_)⟩, by repeat (first | with_reducible assumption | with_reducible refine q_alloc ?_ | with_reducible refine q_store ?_ (by repeat (first | with_reducible assumption | with_reducible exact v_alloc | with_reducible exact v_alloc2 | with_reducible refine v_store ?_ | with_reducible refine Var3.other ?_ (by first | assumption | omega) _ _ _ | with_reducible refine v_below ?_))), by repeat (first | with_reducible assumption | with_reducible refine q_alloc ?_ | with_reducible refine q_store ?_ (by repeat (first | with_reducible assumption | with_reducible exact v_alloc | with_reducible exact v_alloc2 | with_reducible refine v_store ?_ | with_reducible refine Var3.other ?_ (by first | assumption | omega) _ _ _ | with_reducible refine v_below ?_))), HKX⟩ ?_
    clear hQa hQb HKX
    rintro WX ⟨⟨hVm, hVn⟩, hQm, hQn, hKX⟩
    have HT1 := hid (HT0.out.below hKX)
    have HB1 := hid (HB.out.trans (hKX.mono HB.out.size))
    have HVm := hid hVm
    have HVn := hid hVn
    have hbd := fr_bd HFin.out.1
    obtain ⟨rm1, rm2⟩ := q_parts hQm
    obtain ⟨rn1, rn2⟩ := q_parts hQn
    have HE1 := hid (NatCmp_any _ _ _ _ WX rm2 rn2 (w_16 (Nat.lt_of_le_of_lt HFin.out.2.1 hbd.2)) (w_16 hbd.2))
    have HE2 := hid (fun q => NatCmp_any _ _ _ _ (WX.drewN q) (rm1.below (below_drewN (Below.refl _ _) q)) (rn1.below (below_drewN (Below.refl _ _) q)) (w_16 (Nat.lt_of_le_of_lt HFin.out.2.2 hbd.1)) (w_16 hbd.1))
    obtain ⟨c2, hc2⟩ : ∃ c, c = cmp3 (fpl (fr x) (fr y)).2.1 (fr z).2.1 := ⟨_, rfl⟩
    have hn2 : decide (c2 ≤ 0) = true := decide_eq_true (by rw [hc2]; exact cmp3_le0 HFin.out.2.2)
    rw [← hc2] at HE2
    obtain ⟨a0, a1, a2, _⟩ := hVm.cells
    obtain ⟨b0, b1, b2, _⟩ := hVn.cells
    clear hc2 rm1 rm2 rn1 rn2 hbd hVm hVn hQm hQn hKX hKa hKb hBa hBb hQ1 hQ2 HOa HOz HC1 HC2 HC3 HC4 HLZ HS
    rcases Nat.lt_or_eq_of_le HFin.out.2.1 with hlt | heq
    · rw [cmp3_lt hlt] at HE1
      clear hlt HE2
      go_wp2_with fail
      refine HE1.out.mono ?_
      rintro e w6 ⟨rfl, q, rfl⟩
      have HAw := hid (awake_any (WX.drewN q) (HT1.out.below (below_drewN (Below.refl _ _) q)))
      go_wp2_with fail
      refine HAw.out.mono ?_
      rintro e wz ⟨rfl, hst⟩
      have HZZ := hid ((below_drewN HB1.out q).trans (hst.mono (below_drewN HB1.out q).size))
      clear hst
      go_wp2_with fail
      go_ret
      exact ⟨rfl, HZZ.out⟩
    · rw [heq, cmp3_eq] at HE1
      clear heq
      go_wp2_with fail
      refine HE1.out.mono ?_
      rintro e w6 ⟨rfl, q, rfl⟩
      go_wp2_with fail
      refine (HE2.out q).mono ?_
      rintro e w7 ⟨rfl, q2, rfl⟩
      have HAw := hid (awake_any (WX.drewN (q + q2)) (HT1.out.below (below_drewN (Below.refl _ _) (q + q2))))
      go_wp2_with fail
      refine HAw.out.mono ?_
      rintro e wz ⟨rfl, hst⟩
      have HZ3 := hid (below_drewN HB1.out (q + q2))
      have HZZ := hid (HZ3.out.trans (hst.mono HZ3.out.size))
      clear hst
      go_wp2_with fail
      go_ret
      exact ⟨rfl, HZZ.out⟩
  · rename_i hHeld
    have HKX := held6 (N := w5.heap.size) (W0 := w5) hHeld
    clear hHeld
    have hQa : QNorm wb (.agg #[.bool s5, .slice p5 k5 c5, .slice p6 k6 c6]) (fpl (fr x) (fr y)) := by first | exact hQ1.out.below hBb | exact (q_alloc hQ1.out).below hBb | exact (q_alloc (q_alloc hQ1.out)).below hBb
    have hQb := hQ2.out
    refine leaf_world (p := fun W => (Var3 W (wb.heap.size + 1) (.bool s5) (.slice p5 k5 c5) (.slice p6 k6 c6) ∧ Var3 W (wb.heap.size) (.bool s7) (.slice p7 k7 c7) (.slice p8 k8 c8)) ∧ QNorm W (.agg #[.bool s5, .slice p5 k5 c5, .slice p6 k6 c6]) (fpl (fr x) (fr y)) ∧ QNorm W (.agg #[.bool s7, .slice p7 k7 c7, .slice p8 k8 c8]) (fr z) ∧ Below w5.heap.size w5 W) ⟨⟨by repeat (first | with_reducible assumption | with_reducible exact v_alloc | with_reducible exact v_alloc2 | with_reducible refine v_store ?_ | with_reducible refine Var3.other ?_ (by first | assumption | omega) _ _ _ | with_reducible refine v_below ?_), by repeat (first | with_reducible assumption | with_reducible exact v_alloc | with_reducible exact v_alloc2 | with_reducible refine v_store ?_ | with_reducible refine Var3.other ?_ (by first | assumption | omega) _ _ _ | with_reducible refine v_below ?_)⟩, by repeat (first | with_reducible assumption | with_reducible refine q_alloc ?_ | with_reducible refine q_store ?_ (by repeat (first | with_reducible assumption | with_reducible exact v_alloc | with_reducible exact v_alloc2 | with_reducible refine v_store ?_ | with_reducible refine Var3.other ?_ (by first | assumption | omega) _ _ _ | with_reducible refine v_below ?_))), by repeat (first | with_reducible assumption | with_reducible refine q_alloc ?_ | with_reducible refine q_store ?_ (by repeat (first | with_reducible assumption | with_reducible exact v_alloc | with_reducible exact v_alloc2 | with_reducible refine v_store ?_ | with_reducible refine Var3.other ?_ (by first | assumption | omega) _ _ _ | with_reducible refine v_below ?_))), HKX⟩ ?_
    clear hQa hQb HKX
    rintro WX ⟨⟨hVm, hVn⟩, hQm, hQn, hKX⟩
    have HT1 := hid (HT0.out.below hKX)
    have HB1 := hid (HB.out.trans (hKX.mono HB.out.size))
    have HVm := hid hVm
    have HVn := hid hVn
    have hbd := fr_bd HFin.out.1
    obtain ⟨rm1, rm2⟩ := q_parts hQm
    obtain ⟨rn1, rn2⟩ := q_parts hQn
    have HE1 := hid (NatCmp_any _ _ _ _ WX rm2 rn2 (w_16 (Nat.lt_of_le_of_lt HFin.out.2.1 hbd.2)) (w_16 hbd.2))
    have HE2 := hid (fun q => NatCmp_any _ _ _ _ (WX.drewN q) (rm1.below (below_drewN (Below.refl _ _) q)) (rn1.below (below_drewN (Below.refl _ _) q)) (w_16 (Nat.lt_of_le_of_lt HFin.out.2.2 hbd.1)) (w_16 hbd.1))
    obtain ⟨c2, hc2⟩ : ∃ c, c = cmp3 (fpl (fr x) (fr y)).2.1 (fr z).2.1 := ⟨_, rfl⟩
    have hn2 : decide (c2 ≤ 0) = true := decide_eq_true (by rw [hc2]; exact cmp3_le0 HFin.out.2.2)
    rw [← hc2] at HE2
    obtain ⟨a0, a1, a2, _⟩ := hVm.cells
    obtain ⟨b0, b1, b2, _⟩ := hVn.cells
    clear hc2 rm1 rm2 rn1 rn2 hbd hVm hVn hQm hQn hKX hKa hKb hBa hBb hQ1 hQ2 HOa HOz HC1 HC2 HC3 HC4 HLZ HS
    rcases Nat.lt_or_eq_of_le HFin.out.2.1 with hlt | heq
    · rw [cmp3_lt hlt] at HE1
      clear hlt HE2
      go_wp2_with fail
      refine HE1.out.mono ?_
      rintro e w6 ⟨rfl, q, rfl⟩
      have HAw := hid (awake_any (WX.drewN q) (HT1.out.below (below_drewN (Below.refl _ _) q)))
      go_wp2_with fail
      refine HAw.out.mono ?_
      rintro e wz ⟨rfl, hst⟩
      have HZZ := hid ((below_drewN HB1.out q).trans (hst.mono (below_drewN HB1.out q).size))
      clear hst
      go_wp2_with fail
      go_ret
      exact ⟨rfl, HZZ.out⟩
    · rw [heq, cmp3_eq] at HE1
      clear heq
      go_wp2_with fail
      refine HE1.out.mono ?_
      rintro e w6 ⟨rfl, q, rfl⟩
      go_wp2_with fail
      refine (HE2.out q).mono ?_
      rintro e w7 ⟨rfl, q2, rfl⟩
      have HAw := hid (awake_any (WX.drewN (q + q2)) (HT1.out.below (below_drewN (Below.refl _ _) (q + q2))))
      go_wp2_with fail
      refine HAw.out.mono ?_
      rintro e wz ⟨rfl, hst⟩
      have HZ3 := hid (below_drewN HB1.out (q + q2))
      have HZZ := hid (HZ3.out.trans (hst.mono HZ3.out.size))
      clear hst
      go_wp2_with fail
      go_ret
      exact ⟨rfl, HZZ.out⟩
  · rename_i hHeld
    have HKX := held6 (N := w5.heap.size) (W0 := w5) hHeld
    clear hHeld
    have hQa : QNorm wb (.agg #[.bool s5, .slice p5 k5 c5, .slice p6 k6 c6]) (fpl (fr x) (fr y)) := by first | exact hQ1.out.below hBb | exact (q_alloc hQ1.out).below hBb | exact (q_alloc (q_alloc hQ1.out)).below hBb
    have hQb := hQ2.out
    refine leaf_world (p := fun W => (Var3 W (wa.heap.size) (.bool s5) (.slice p5 k5 c5) (.slice p6 k6 c6) ∧ Var3 W (wb.heap.size) (.bool s7) (.slice p7 k7 c7) (.slice p8 k8 c8)) ∧ QNorm W (.agg #[.bool s5, .slice p5 k5 c5, .slice p6 k6 c6]) (fpl (fr x) (fr y)) ∧ QNorm W (.agg #[.bool s7, .slice p7 k7 c7, .slice p8 k8 c8]) (fr z) ∧ Below w5.heap.size w5 W) ⟨⟨by repeat (first | with_reducible assumption | with_reducible exact v_alloc | with_reducible exact v_alloc2 | with_reducible refine v_store ?_ | with_reducible refine Var3.other ?_ (by first | assumption | omega) _ _ _ | with_reducible refine v_below ?_), by repeat (first | with_reducible assumption | with_reducible exact v_alloc | with_reducible exact v_alloc2 | with_reducible refine v_store ?_ | with_reducible refine Var3.other ?_ (by first | assumption | omega) _ _ _ | with_reducible refine v_below ?_)⟩, by repeat (first | with_reducible assumption | with_reducible refine q_alloc ?_ | with_reducible refine q_store ?_ (by repeat (first | with_reducible assumption | with_reducible exact v_alloc | with_reducible exact v_alloc2 | with_reducible refine v_store ?_ | with_reducible refine Var3.other ?_ (by first | assumption | omega) _ _ _ | with_reducible refine v_below ?_))), by repeat (first | with_reducible assumption | with_reducible refine q_alloc ?_ | with_reducible refine q_store ?_ (by repeat (first | with_reducible assumption | with_reducible exact v_alloc | with_reducible exact v_alloc2 | with_reducible refine v_store ?_ | with_reducible refine Var3.other ?_ (by first | assumption | omega) _ _ _ | with_reducible refine v_below ?_))), HKX⟩ ?_
    clear hQa hQb HKX
    rintro WX ⟨⟨hVm, hVn⟩, hQm, hQn, hKX⟩
    have HT1 := hid (HT0.out.below hKX)
    have HB1 := hid (HB.out.trans (hKX.mono HB.out.size))
    have HVm := hid hVm
    have HVn := hid hVn
    have hbd := fr_bd HFin.out.1
    obtain ⟨rm1, rm2⟩ := q_parts hQm
    obtain ⟨rn1, rn2⟩ := q_parts hQn
    have HE1 := hid (NatCmp_any _ _ _ _ WX rm2 rn2 (w_16 (Nat.lt_of_le_of_lt HFin.out.2.1 hbd.2)) (w_16 hbd.2))
    have HE2 := hid (fun q => NatCmp_any _ _ _ _ (WX.drewN q) (rm1.below (below_drewN (Below.refl _ _) q)) (rn1.below (below_drewN (Below.refl _ _) q)) (w_16 (Nat.lt_of_le_of_lt HFin.out.2.2 hbd.1)) (w_16 hbd.1))
    obtain ⟨c2, hc2⟩ : ∃ c, c = cmp3 (fpl (fr x) (fr y)).2.1 (fr z).2.1 := ⟨_, rfl⟩
    have hn2 : decide (c2 ≤ 0) = true := decide_eq_true (by rw [hc2]; exact cmp3_le0 HFin.out.2.2)
    rw [← hc2] at HE2
    obtain ⟨a0, a1, a2, _⟩ := hVm.cells
    obtain ⟨b0, b1, b2, _⟩ := hVn.cells
    clear hc2 rm1 rm2 rn1 rn2 hbd hVm hVn hQm hQn hKX hKa hKb hBa hBb hQ1 hQ2 HOa HOz HC1 HC2 HC3 HC4 HLZ HS
    rcases Nat.lt_or_eq_of_le HFin.out.2.1 with hlt | heq
    · rw [cmp3_lt hlt] at HE1
      clear hlt HE2
      go_wp2_with fail
      refine HE1.out.mono ?_
      rintro e w6 ⟨rfl, q, rfl⟩
      have HAw := hid (awake_any (WX.drewN q) (HT1.out.below (below_drewN (Below.refl _ _) q)))
      go_wp2_with fail
      refine HAw.out.mono ?_
      rintro e wz ⟨rfl, hst⟩
      have HZZ := hid ((below_drewN HB1.out q).trans (hst.mono (below_drewN HB1.out q).size))
      clear hst
      go_wp2_with fail
      go_ret
      exact ⟨rfl, HZZ.out⟩
    · rw [heq, cmp3_eq] at HE1
      clear heq
      go_wp2_with fail
      refine HE1.out.mono ?_
      rintro e w6 ⟨rfl, q, rfl⟩
      go_wp2_with fail
      refine (HE2.out q).mono ?_
      rintro e w7 ⟨rfl, q2, rfl⟩
      have HAw := hid (awake_any (WX.drewN (q + q2)) (HT1.out.below (below_drewN (Below.refl _ _) (q + q2))))
      go_wp2_with fail
      refine HAw.out.mono ?_
      rintro e wz ⟨rfl, hst⟩
      have HZ3 := hid (below_drewN HB1.out (q + q2))
      have HZZ := hid (HZ3.out.trans (hst.mono HZ3.out.size))
      clear hst
      go_wp2_with fail
      go_ret
      exact ⟨rfl, HZZ.out⟩
  · rename_i hHeld
    have HKX := held6 (N := w5.heap.size) (W0 := w5) hHeld
    clear hHeld
    have hQa : QNorm wb (.agg #[.bool s5, .slice p5 k5 c5, .slice p6 k6 c6]) (fpl (fr x) (fr y)) := by first | exact hQ1.out.below hBb | exact (q_alloc hQ1.out).below hBb | exact (q_alloc (q_alloc hQ1.out)).below hBb
    have hQb := hQ2.out
    refine leaf_world (p := fun W => (Var3 W (wa.heap.size) (.bool s5) (.slice p5 k5 c5) (.slice p6 k6 c6) ∧ Var3 W (wa.heap.size + 1) (.bool s7) (.slice p7 k7 c7) (.slice p8 k8 c8)) ∧ QNorm W (.agg #[.bool s5, .slice p5 k5 c5, .slice p6 k6 c6]) (fpl (fr x) (fr y)) ∧ QNorm W (.agg #[.bool s7, .slice p7 k7 c7, .slice p8 k8 c8]) (fr z) ∧ Below w5.heap.size w5 W) ⟨⟨by repeat (first | with_reducible assumption | with_reducible exact v_alloc | with_reducible exact v_alloc2 | with_reducible refine v_store ?_ | with_reducible refine Var3.other ?_ (by first | assumption | omega) _ _ _ | with_reducible refine v_below ?_), by repeat (first | with_reducible assumption | with_reducible exact v_alloc | with_reducible exact v_alloc2 | with_reducible refine v_store ?_ | with_reducible refine Var3.other ?_ (by first | assumption | omega) _ _ _ | with_reducible refine v_below ?_)⟩, by repeat (first | with_reducible assumption | with_reducible refine q_alloc ?_ | with_reducible refine q_store ?_ (by repeat (first | with_reducible assumption | with_reducible exact v_alloc | with_reducible exact v_alloc2 | with_reducible refine v_store ?_ | with_reducible refine Var3.other ?_ (by first | assumption | omega) _ _ _ | with_reducible refine v_below ?_))), by repeat (first | with_reducible assumption | with_reducible refine q_alloc ?_ | with_reducible refine q_store ?_ (by repeat (first | with_reducible assumption | with_reducible exact v_alloc | with_reducible exact v_alloc2 | with_reducible refine v_store ?_ | with_reducible refine Var3.other ?_ (by first | assumption | omega) _ _ _ | with_reducible refine v_below ?_))), HKX⟩ ?_
    clear hQa hQb HKX
    rintro WX ⟨⟨hVm, hVn⟩, hQm, hQn, hKX⟩
    have HT1 := hid (HT0.out.below hKX)
    have HB1 := hid (HB.out.trans (hKX.mono HB.out.size))
    have HVm := hid hVm
    have HVn := hid hVn
    have hbd := fr_bd HFin.out.1
    obtain ⟨rm1, rm2⟩ := q_parts hQm
    obtain ⟨rn1, rn2⟩ := q_parts hQn
    have HE1 := hid (NatCmp_any _ _ _ _ WX rm2 rn2 (w_16 (Nat.lt_of_le_of_lt HFin.out.2.1 hbd.2)) (w_16 hbd.2))
    have HE2 := hid (fun q => NatCmp_any _ _ _ _ (WX.drewN q) (rm1.below (below_drewN (Below.refl _ _) q)) (rn1.below (below_drewN (Below.refl _ _) q)) (w_16 (Nat.lt_of_le_of_lt HFin.out.2.2 hbd.1)) (w_16 hbd.1))
    obtain ⟨c2, hc2⟩ : ∃ c, c = cmp3 (fpl (fr x) (fr y)).2.1 (fr z).2.1 := ⟨_, rfl⟩
    have hn2 : decide (c2 ≤ 0) = true := decide_eq_true (by rw [hc2]; exact cmp3_le0 HFin.out.2.2)
    rw [← hc2] at HE2
    obtain ⟨a0, a1, a2, _⟩ := hVm.cells
    obtain ⟨b0, b1, b2, _⟩ := hVn.cells
    clear hc2 rm1 rm2 rn1 rn2 hbd hVm hVn hQm hQn hKX hKa hKb hBa hBb hQ1 hQ2 HOa HOz HC1 HC2 HC3 HC4 HLZ HS
    rcases Nat.lt_or_eq_of_le HFin.out.2.1 with hlt | heq
    · rw [cmp3_lt hlt] at HE1
      clear hlt HE2
      go_wp2_with fail
      refine HE1.out.mono ?_
      rintro e w6 ⟨rfl, q, rfl⟩
      have HAw := hid (awake_any (WX.drewN q) (HT1.out.below (below_drewN (Below.refl _ _) q)))
      go_wp2_with fail
      refine HAw.out.mono ?_
      rintro e wz ⟨rfl, hst⟩
      have HZZ := hid ((below_drewN HB1.out q).trans (hst.mono (below_drewN HB1.out q).size))
      clear hst
      go_wp2_with fail
      go_ret
      exact ⟨rfl, HZZ.out⟩
    · rw [heq, cmp3_eq] at HE1
      clear heq
      go_wp2_with fail
      refine HE1.out.mono ?_
      rintro e w6 ⟨rfl, q, rfl⟩
      go_wp2_with fail
      refine (HE2.out q).mono ?_
      rintro e w7 ⟨rfl, q2, rfl⟩
      have HAw := hid (awake_any (WX.drewN (q + q2)) (HT1.out.below (below_drewN (Below.refl _ _) (q + q2))))
      go_wp2_with fail
      refine HAw.out.mono ?_
      rintro e wz ⟨rfl, hst⟩
      have HZ3 := hid (below_drewN HB1.out (q + q2))
      have HZZ := hid (HZ3.out.trans (hst.mono HZ3.out.size))
      clear hst
      go_wp2_with fail
      go_ret
      exact ⟨rfl, HZZ.out⟩
  · rename_i hHeld
    have HKX := held6 (N := w5.heap.size) (W0 := w5) hHeld
    clear hHeld
    have hQa : QNorm wb (.agg #[.bool s5, .slice p5 k5 c5, .slice p6 k6 c6]) (fpl (fr x) (fr y)) := by first | exact hQ1.out.below hBb | exact (q_alloc hQ1.out).below hBb | exact (q_alloc (q_alloc hQ1.out)).below hBb
    have hQb := hQ2.out
    refine leaf_world (p := fun W => (Var3 W (wb.heap.size) (.bool s5) (.slice p5 k5 c5) (.slice p6 k6 c6) ∧ Var3 W (wa.heap.size) (.bool s7) (.slice p7 k7 c7) (.slice p8 k8 c8)) ∧ QNorm W (.agg #[.bool s5, .slice p5 k5 c5, .slice p6 k6 c6]) (fpl (fr x) (fr y)) ∧ QNorm W (.agg #[.bool s7, .slice p7 k7 c7, .slice p8 k8 c8]) (fr z) ∧ Below w5.heap.size w5 W) ⟨⟨by repeat (first | with_reducible assumption | with_reducible exact v_alloc | with_reducible exact v_alloc2 | with_reducible refine v_store ?_ | with_reducible refine Var3.other ?_ (by first | assumption | omega) _ _ _ | with_reducible refine v_below ?_), by repeat (first | with_reducible assumption | with_reducible exact v_alloc | with_reducible exact v_alloc2 | with_reducible refine v_store ?_ | with_reducible refine Var3.other ?_ (by first | assumption | omega) _ _ _ | with_reducible refine v_below ?_)⟩, by repeat (first | with_reducible assumption | with_reducible refine q_alloc ?_ | with_reducible refine q_store ?_ (by repeat (first | with_reducible assumption | with_reducible exact v_alloc | with_reducible exact v_alloc2 | with_reducible refine v_store ?_ | with_reducible refine Var3.other ?_ (by first | assumption | omega) _ _ _ | with_reducible refine v_below ?_))), by repeat (first | with_reducible assumption | with_reducible refine q_alloc ?_ | with_reducible refine q_store ?_ (by repeat (first | with_reducible assumption | with_reducible exact v_alloc | with_reducible exact v_alloc2 | with_reducible refine v_store ?_ | with_reducible refine Var3.other ?_ (by first | assumption | omega) _ _ _ | with_reducible refine v_below ?_))), HKX⟩ ?_
    clear hQa hQb HKX
    rintro WX ⟨⟨hVm, hVn⟩, hQm, hQn, hKX⟩
    have HT1 := hid (HT0.out.below hKX)
    have HB1 := hid (HB.out.trans (hKX.mono HB.out.size))
    have HVm := hid hVm
    have HVn := hid hVn
    have hbd := fr_bd HFin.out.1
    obtain ⟨rm1, rm2⟩ := q_parts hQm
    obtain ⟨rn1, rn2⟩ := q_parts hQn
    have HE1 := hid (NatCmp_any _ _ _ _ WX rm2 rn2 (w_16 (Nat.lt_of_le_of_lt HFin.out.2.1 hbd.2)) (w_16 hbd.2))
    have HE2 := hid (fun q => NatCmp_any _ _ _ _ (WX.drewN q) (rm1.below (below_drewN (Below.refl _ _) q)) (rn1.below (below_drewN (Below.refl _ _) q)) (w_16 (Nat.lt_of_le_of_lt HFin.out.2.2 hbd.1)) (w_16 hbd.1))
    obtain ⟨c2, hc2⟩ : ∃ c, c = cmp3 (fpl (fr x) (fr y)).2.1 (fr z).2.1 := ⟨_, rfl⟩
    have hn2 : decide (c2 ≤ 0) = true := decide_eq_true (by rw [hc2]; exact cmp3_le0 HFin.out.2.2)
    rw [← hc2] at HE2
    obtain ⟨a0, a1, a2, _⟩ := hVm.cells
    obtain ⟨b0, b1, b2, _⟩ := hVn.cells
    clear hc2 rm1 rm2 rn1 rn2 hbd hVm hVn hQm hQn hKX hKa hKb hBa hBb hQ1 hQ2 HOa HOz HC1 HC2 HC3 HC4 HLZ HS
    rcases Nat.lt_or_eq_of_le HFin.out.2.1 with hlt | heq
    · rw [cmp3_lt hlt] at HE1
      clear hlt HE2
      go_wp2_with fail
      refine HE1.out.mono ?_
      rintro e w6 ⟨rfl, q, rfl⟩
      have HAw := hid (awake_any (WX.drewN q) (HT1.out.below (below_drewN (Below.refl _ _) q)))
      go_wp2_with fail
      refine HAw.out.mono ?_
      rintro e wz ⟨rfl, hst⟩
      have HZZ := hid ((below_drewN HB1.out q).trans (hst.mono (below_drewN HB1.out q).size))
      clear hst
      go_wp2_with fail
      go_ret
      exact ⟨rfl, HZZ.out⟩
    · rw [heq, cmp3_eq] at HE1
      clear heq
      go_wp2_with fail
      refine HE1.out.mono ?_
      rintro e w6 ⟨rfl, q, rfl⟩
      go_wp2_with fail
      refine (HE2.out q).mono ?_
      rintro e w7 ⟨rfl, q2, rfl⟩
      have HAw := hid (awake_any (WX.drewN (q + q2)) (HT1.out.below (below_drewN (Below.refl _ _) (q + q2))))
      go_wp2_with fail
      refine HAw.out.mono ?_
      rintro e wz ⟨rfl, hst⟩
      have HZ3 := hid (below_drewN HB1.out (q + q2))
      have HZZ := hid (HZ3.out.trans (hst.mono HZ3.out.size))
      clear hst
      go_wp2_with fail
      go_ret
      exact ⟨rfl, HZZ.out⟩
  · rename_i hHeld
    have HKX := held6 (N := w5.heap.size) (W0 := w5) hHeld
    clear hHeld
    have hQa : QNorm wb (.agg #[.bool s5, .slice p5 k5 c5, .slice p6 k6 c6]) (fpl (fr x) (fr y)) := by first | exact hQ1.out.below hBb | exact (q_alloc hQ1.out).below hBb | exact (q_alloc (q_alloc hQ1.out)).below hBb
    have hQb := hQ2.out
    refine leaf_world (p := fun W => (Var3 W (wa.heap.size + 1) (.bool s5) (.slice p5 k5 c5) (.slice p6 k6 c6) ∧ Var3 W (wa.heap.size) (.bool s7) (.slice p7 k7 c7) (.slice p8 k8 c8)) ∧ QNorm W (.agg #[.bool s5, .slice p5 k5 c5, .slice p6 k6 c6]) (fpl (fr x) (fr y)) ∧ QNorm W (.agg #[.bool s7, .slice p7 k7 c7, .slice p8 k8 c8]) (fr z) ∧ Below w5.heap.size w5 W) ⟨⟨by repeat (first | with_reducible assumption | with_reducible exact v_alloc | with_reducible exact v_alloc2 | with_reducible refine v_store ?_ | with_reducible refine Var3.other ?_ (by first | assumption | omega) _ _ _ | with_reducible refine v_below ?_), by repeat (first | with_reducible assumption | with_reducible exact v_alloc | with_reducible exact v_alloc2 | with_reducible refine v_store ?_ | with_reducible refine Var3.other ?_ (by first | assumption | omega) _ _ _ | with_reducible refine v_below ?_)⟩, by repeat (first | with_reducible assumption | with_reducible refine q_alloc ?_ | with_reducible refine q_store ?_ (by repeat (first | with_reducible assumption | with_reducible exact v_alloc | with_reducible exact v_alloc2 | with_reducible refine v_store ?_ | with_reducible refine Var3.other ?_ (by first | assumption | omega) _ _ _ | with_reducible refine v_below ?_))), by repeat (first | with_reducible assumption | with_reducible refine q_alloc ?_ | with_reducible refine q_store ?_ (by repeat (first | with_reducible assumption | with_reducible exact v_alloc | with_reducible exact v_alloc2 | with_reducible refine v_store ?_ | with_reducible refine Var3.other ?_ (by first | assumption | omega) _ _ _ | with_reducible refine v_below ?_))), HKX⟩ ?_
    clear hQa hQb HKX
    rintro WX ⟨⟨hVm, hVn⟩, hQm, hQn, hKX⟩
    have HT1 := hid (HT0.out.below hKX)
    have HB1 := hid (HB.out.trans (hKX.mono HB.out.size))
    have HVm := hid hVm
    have HVn := hid hVn
    have hbd := fr_bd HFin.out.1
    obtain ⟨rm1, rm2⟩ := q_parts hQm
    obtain ⟨rn1, rn2⟩ := q_parts hQn
    have HE1 := hid (NatCmp_any _ _ _ _ WX rm2 rn2 (w_16 (Nat.lt_of_le_of_lt HFin.out.2.1 hbd.2)) (w_16 hbd.2))
    have HE2 := hid (fun q => NatCmp_any _ _ _ _ (WX.drewN q) (rm1.below (below_drewN (Below.refl _ _) q)) (rn1.below (below_drewN (Below.refl _ _) q)) (w_16 (Nat.lt_of_le_of_lt HFin.out.2.2 hbd.1)) (w_16 hbd.1))
    obtain ⟨c2, hc2⟩ : ∃ c, c = cmp3 (fpl (fr x) (fr y)).2.1 (fr z).2.1 := ⟨_, rfl⟩
    have hn2 : decide (c2 ≤ 0) = true := decide_eq_true (by rw [hc2]; exact cmp3_le0 HFin.out.2.2)
    rw [← hc2] at HE2
    obtain ⟨a0, a1, a2, _⟩ := hVm.cells
    obtain ⟨b0, b1, b2, _⟩ := hVn.cells
    clear hc2 rm1 rm2 rn1 rn2 hbd hVm hVn hQm hQn hKX hKa hKb hBa hBb hQ1 hQ2 HOa HOz HC1 HC2 HC3 HC4 HLZ HS
    rcases Nat.lt_or_eq_of_le HFin.out.2.1 with hlt | heq
    · rw [cmp3_lt hlt] at HE1
      clear hlt HE2
      go_wp2_with fail
      refine HE1.out.mono ?_
      rintro e w6 ⟨rfl, q, rfl⟩
      have HAw := hid (awake_any (WX.drewN q) (HT1.out.below (below_drewN (Below.refl _ _) q)))
      go_wp2_with fail
      refine HAw.out.mono ?_
      rintro e wz ⟨rfl, hst⟩
      have HZZ := hid ((below_drewN HB1.out q).trans (hst.mono (below_drewN HB1.out q).size))
      clear hst
      go_wp2_with fail
      go_ret
      exact ⟨rfl, HZZ.out⟩
    · rw [heq, cmp3_eq] at HE1
      clear heq
      go_wp2_with fail
      refine HE1.out.mono ?_
      rintro e w6 ⟨rfl, q, rfl⟩
      go_wp2_with fail
      refine (HE2.out q).mono ?_
      rintro e w7 ⟨rfl, q2, rfl⟩
      have HAw := hid (awake_any (WX.drewN (q + q2)) (HT1.out.below (below_drewN (Below.refl _ _) (q + q2))))
      go_wp2_with fail
      refine HAw.out.mono ?_
      rintro e wz ⟨rfl, hst⟩
      have HZ3 := hid (below_drewN HB1.out (q + q2))
      have HZZ := hid (HZ3.out.trans (hst.mono HZ3.out.size))
      clear hst
      go_wp2_with fail
      go_ret
      exact ⟨rfl, HZZ.out⟩
  · rename_i hHeld
    have HKX := held6 (N := w5.heap.size) (W0 := w5) hHeld
    clear hHeld
    have hQa : QNorm wb (.agg #[.bool s5, .slice p5 k5 c5, .slice p6 k6 c6]) (fpl (fr x) (fr y)) := by first | exact hQ1.out.below hBb | exact (q_alloc hQ1.out).below hBb | exact (q_alloc (q_alloc hQ1.out)).below hBb
    have hQb := hQ2.out
    refine leaf_world (p := fun W => (Var3 W (w5.heap.size) (.bool s5) (.slice p5 k5 c5) (.slice p6 k6 c6) ∧ Var3 W (wb.heap.size) (.bool s7) (.slice p7 k7 c7) (.slice p8 k8 c8)) ∧ QNorm W (.agg #[.bool s5, .slice p5 k5 c5, .slice p6 k6 c6]) (fpl (fr x) (fr y)) ∧ QNorm W (.agg #[.bool s7, .slice p7 k7 c7, .slice p8 k8 c8]) (fr z) ∧ Below w5.heap.size w5 W) ⟨⟨by repeat (first | with_reducible assumption | with_reducible exact v_alloc | with_reducible exact v_alloc2 | with_reducible refine v_store ?_ | with_reducible refine Var3.other ?_ (by first | assumption | omega) _ _ _ | with_reducible refine v_below ?_), by repeat (first | with_reducible assumption | with_reducible exact v_alloc | with_reducible exact v_alloc2 | with_reducible refine v_store ?_ | with_reducible refine Var3.other ?_ (by first | assumption | omega) _ _ _ | with_reducible refine v_below ?_)⟩, by repeat (first | with_reducible assumption | with_reducible refine q_alloc ?_ | with_reducible refine q_store ?_ (by repeat (first | with_reducible assumption | with_reducible exact v_alloc | with_reducible exact v_alloc2 | with_reducible refine v_store ?_ | with_reducible refine Var3.other ?_ (by first | assumption | omega) _ _ _ | with_reducible refine v_below ?_))), by repeat (first | with_reducible assumption | with_reducible refine q_alloc ?_ | with_reducible refine q_store ?_ (by repeat (first | with_reducible assumption | with_reducible exact v_alloc | with_reducible exact v_alloc2 | with_reducible refine v_store ?_ | with_reducible refine Var3.other ?_ (by first | assumption | omega) _ _ _ | with_reducible refine v_below ?_))), HKX⟩ ?_
    clear hQa hQb HKX
    rintro WX ⟨⟨hVm, hVn⟩, hQm, hQn, hKX⟩
    have HT1 := hid (HT0.out.below hKX)
    have HB1 := hid (HB.out.trans (hKX.mono HB.out.size))
    have HVm := hid hVm
    have HVn := hid hVn
    have hbd := fr_bd HFin.out.1
    obtain ⟨rm1, rm2⟩ := q_parts hQm
    obtain ⟨rn1, rn2⟩ := q_parts hQn
    have HE1 := hid (NatCmp_any _ _ _ _ WX rm2 rn2 (w_16 (Nat.lt_of_le_of_lt HFin.out.2.1 hbd.2)) (w_16 hbd.2))
    have HE2 := hid (fun q => NatCmp_any _ _ _ _ (WX.drewN q) (rm1.below (below_drewN (Below.refl _ _) q)) (rn1.below (below_drewN (Below.refl _ _) q)) (w_16 (Nat.lt_of_le_of_lt HFin.out.2.2 hbd.1)) (w_16 hbd.1))
    obtain ⟨c2, hc2⟩ : ∃ c, c = cmp3 (fpl (fr x) (fr y)).2.1 (fr z).2.1 := ⟨_, rfl⟩
    have hn2 : decide (c2 ≤ 0) = true := decide_eq_true (by rw [hc2]; exact cmp3_le0 HFin.out.2.2)
    rw [← hc2] at HE2
    obtain ⟨a0, a1, a2, _⟩ := hVm.cells
    obtain ⟨b0, b1, b2, _⟩ := hVn.cells
    clear hc2 rm1 rm2 rn1 rn2 hbd hVm hVn hQm hQn hKX hKa hKb hBa hBb hQ1 hQ2 HOa HOz HC1 HC2 HC3 HC4 HLZ HS
    rcases Nat.lt_or_eq_of_le HFin.out.2.1 with hlt | heq
    · rw [cmp3_lt hlt] at HE1
      clear hlt HE2
      go_wp2_with fail
      refine HE1.out.mono ?_
      rintro e w6 ⟨rfl, q, rfl⟩
      have HAw := hid (awake_any (WX.drewN q) (HT1.out.below (below_drewN (Below.refl _ _) q)))
      go_wp2_with fail
      refine HAw.out.mono ?_
      rintro e wz ⟨rfl, hst⟩
      have HZZ := hid ((below_drewN HB1.out q).trans (hst.mono (below_drewN HB1.out q).size))
      clear hst
      go_wp2_with fail
      go_ret
      exact ⟨rfl, HZZ.out⟩
    · rw [heq, cmp3_eq] at HE1
      clear heq
      go_wp2_with fail
      refine HE1.out.mono ?_
      rintro e w6 ⟨rfl, q, rfl⟩
      go_wp2_with fail
      refine (HE2.out q).mono ?_
      rintro e w7 ⟨rfl, q2, rfl⟩
      have HAw := hid (awake_any (WX.drewN (q + q2)) (HT1.out.below (below_drewN (Below.refl _ _) (q + q2))))
      go_wp2_with fail
      refine HAw.out.mono ?_
      rintro e wz ⟨rfl, hst⟩
      have HZ3 := hid (below_drewN HB1.out (q + q2))
      have HZZ := hid (HZ3.out.trans (hst.mono HZ3.out.size))
      clear hst
      go_wp2_with fail
      go_ret
      exact ⟨rfl, HZZ.out⟩
  · rename_i hHeld
    have HKX := held6 (N := w5.heap.size) (W0 := w5) hHeld
    clear hHeld
    have hQa : QNorm wb (.agg #[.bool s5, .slice p5 k5 c5, .slice p6 k6 c6]) (fpl (fr x) (fr y)) := by first | exact hQ1.out.below hBb | exact (q_alloc hQ1.out).below hBb | exact (q_alloc (q_alloc hQ1.out)).below hBb
    have hQb := hQ2.out
    refine leaf_world (p := fun W => (Var3 W (w5.heap.size) (.bool s5) (.slice p5 k5 c5) (.slice p6 k6 c6) ∧ Var3 W (wa.heap.size) (.bool s7) (.slice p7 k7 c7) (.slice p8 k8 c8)) ∧ QNorm W (.agg #[.bool s5, .slice p5 k5 c5, .slice p6 k6 c6]) (fpl (fr x) (fr y)) ∧ QNorm W (.agg #[.bool s7, .slice p7 k7 c7, .slice p8 k8 c8]) (fr z) ∧ Below w5.heap.size w5 W) ⟨⟨by repeat (first | with_reducible assumption | with_reducible exact v_alloc | with_reducible exact v_alloc2 | with_reducible refine v_store ?_ | with_reducible refine Var3.other ?_ (by first | assumption | omega) _ _ _ | with_reducible refine v_below ?_), by repeat (first | with_reducible assumption | with_reducible exact v_alloc | with_reducible exact v_alloc2 | with_reducible refine v_store ?_ | with_reducible refine Var3.other ?_ (by first | assumption | omega) _ _ _ | with_reducible refine v_below ?_)⟩, by repeat (first | with_reducible assumption | with_reducible refine q_alloc ?_ | with_reducible refine q_store ?_ (by repeat (first | with_reducible assumption | with_reducible exact v_alloc | with_reducible exact v_alloc2 | with_reducible refine v_store ?_ | with_reducible refine Var3.other ?_ (by first | assumption | omega) _ _ _ | with_reducible refine v_below ?_))), by repeat (first | with_reducible assumption | with_reducible refine q_alloc ?_ | with_reducible refine q_store ?_ (by repeat (first | with_reducible assumption | with_reducible exact v_alloc | with_reducible exact v_alloc2 | with_reducible refine v_store ?_ | with_reducible refine Var3.other ?_ (by first | assumption | omega) _ _ _ | with_reducible refine v_below ?_))), HKX⟩ ?_
    clear hQa hQb HKX
    rintro WX ⟨⟨hVm, hVn⟩, hQm, hQn, hKX⟩
    have HT1 := hid (HT0.out.below hKX)
    have HB1 := hid (HB.out.trans (hKX.mono HB.out.size))
    have HVm := hid hVm
    have HVn := hid hVn
    have hbd := fr_bd HFin.out.1
    obtain ⟨rm1, rm2⟩ := q_parts hQm
    obtain ⟨rn1, rn2⟩ := q_parts hQn
    have HE1 := hid (NatCmp_any _ _ _ _ WX rm2 rn2 (w_16 (Nat.lt_of_le_of_lt HFin.out.2.1 hbd.2)) (w_16 hbd.2))
    have HE2 := hid (fun q => NatCmp_any _ _ _ _ (WX.drewN q) (rm1.below (below_drewN (Below.refl _ _) q)) (rn1.below (below_drewN (Below.refl _ _) q)) (w_16 (Nat.lt_of_le_of_lt HFin.out.2.2 hbd.1)) (w_16 hbd.1))
    obtain ⟨c2, hc2⟩ : ∃ c, c = cmp3 (fpl (fr x) (fr y)).2.1 (fr z).2.1 := ⟨_, rfl⟩
    have hn2 : decide (c2 ≤ 0) = true := decide_eq_true (by rw [hc2]; exact cmp3_le0 HFin.out.2.2)
    rw [← hc2] at HE2
    obtain ⟨a0, a1, a2, _⟩ := hVm.cells
    obtain ⟨b0, b1, b2, _⟩ := hVn.cells
    clear hc2 rm1 rm2 rn1 rn2 hbd hVm hVn hQm hQn hKX hKa hKb hBa hBb hQ1 hQ2 HOa HOz HC1 HC2 HC3 HC4 HLZ HS
    rcases Nat.lt_or_eq_of_le HFin.out.2.1 with hlt | heq
    · rw [cmp3_lt hlt] at HE1
      clear hlt HE2
      go_wp2_with fail
      refine HE1.out.mono ?_
      rintro e w6 ⟨rfl, q, rfl⟩
      have HAw := hid (awake_any (WX.drewN q) (HT1.out.below (below_drewN (Below.refl _ _) q)))
      go_wp2_with fail
      refine HAw.out.mono ?_
      rintro e wz ⟨rfl, hst⟩
      have HZZ := hid ((below_drewN HB1.out q).trans (hst.mono (below_drewN HB1.out q).size))
      clear hst
      go_wp2_with fail
      go_ret
      exact ⟨rfl, HZZ.out⟩
    · rw [heq, cmp3_eq] at HE1
      clear heq
      go_wp2_with fail
      refine HE1.out.mono ?_
      rintro e w6 ⟨rfl, q, rfl⟩
      go_wp2_with fail
      refine (HE2.out q).mono ?_
      rintro e w7 ⟨rfl, q2, rfl⟩
      have HAw := hid (awake_any (WX.drewN (q + q2)) (HT1.out.below (below_drewN (Below.refl _ _) (q + q2))))
      go_wp2_with fail
      refine HAw.out.mono ?_
      rintro e wz ⟨rfl, hst⟩
      have HZ3 := hid (below_drewN HB1.out (q + q2))
      have HZZ := hid (HZ3.out.trans (hst.mono HZ3.out.size))
      clear hst
      go_wp2_with fail
      go_ret
      exact ⟨rfl, HZZ.out⟩
  · rename_i hHeld
    have HKX := held6 (N := w5.heap.size) (W0 := w5) hHeld
    clear hHeld
    have hQa : QNorm wb (.agg #[.bool s5, .slice p5 k5 c5, .slice p6 k6 c6]) (fpl (fr x) (fr y)) := by first | exact hQ1.out.below hBb | exact (q_alloc hQ1.out).below hBb | exact (q_alloc (q_alloc hQ1.out)).below hBb
    have hQb := hQ2.out
    refine leaf_world (p := fun W => (Var3 W (w5.heap.size) (.bool s5) (.slice p5 k5 c5) (.slice p6 k6 c6) ∧ Var3 W (w5.heap.size + 1) (.bool s7) (.slice p7 k7 c7) (.slice p8 k8 c8)) ∧ QNorm W (.agg #[.bool s5, .slice p5 k5 c5, .slice p6 k6 c6]) (fpl (fr x) (fr y)) ∧ QNorm W (.agg #[.bool s7, .slice p7 k7 c7, .slice p8 k8 c8]) (fr z) ∧ Below w5.heap.size w5 W) ⟨⟨by repeat (first | with_reducible assumption | with_reducible exact v_alloc | with_reducible exact v_alloc2 | with_reducible refine v_store ?_ | with_reducible refine Var3.other ?_ (by first | assumption | omega) _ _ _ | with_reducible refine v_below ?_), by repeat (first | with_reducible assumption | with_reducible exact v_alloc | with_reducible exact v_alloc2 | with_reducible refine v_store ?_ | with_reducible refine Var3.other ?_ (by first | assumption | omega) _ _ _ | with_reducible refine v_below ?_)⟩, by repeat (first | with_reducible assumption | with_reducible refine q_alloc ?_ | with_reducible refine q_store ?_ (by repeat (first | with_reducible assumption | with_reducible exact v_alloc | with_reducible exact v_alloc2 | with_reducible refine v_store ?_ | with_reducible refine Var3.other ?_ (by first | assumption | omega) _ _ _ | with_reducible refine v_below ?_))), by repeat (first | with_reducible assumption | with_reducible refine q_alloc ?_ | with_reducible refine q_store ?_ (by repeat (first | with_reducible assumption | with_reducible exact v_alloc | with_reducible exact v_alloc2 | with_reducible refine v_store ?_ | with_reducible refine Var3.other ?_ (by first | assumption | omega) _ _ _ | with_reducible refine v_below ?_))), HKX⟩ ?_
    clear hQa hQb HKX
    rintro WX ⟨⟨hVm, hVn⟩, hQm, hQn, hKX⟩
    have HT1 := hid (HT0.out.below hKX)
    have HB1 := hid (HB.out.trans (hKX.mono HB.out.size))
    have HVm := hid hVm
    have HVn := hid hVn
    have hbd := fr_bd HFin.out.1
    obtain ⟨rm1, rm2⟩ := q_parts hQm
    obtain ⟨rn1, rn2⟩ := q_parts hQn
    have HE1 := hid (NatCmp_any _ _ _ _ WX rm2 rn2 (w_16 (Nat.lt_of_le_of_lt HFin.out.2.1 hbd.2)) (w_16 hbd.2))
    have HE2 := hid (fun q => NatCmp_any _ _ _ _ (WX.drewN q) (rm1.below (below_drewN (Below.refl _ _) q)) (rn1.below (below_drewN (Below.refl _ _) q)) (w_16 (Nat.lt_of_le_of_lt HFin.out.2.2 hbd.1)) (w_16 hbd.1))
    obtain ⟨c2, hc2⟩ : ∃ c, c = cmp3 (fpl (fr x) (fr y)).2.1 (fr z).2.1 := ⟨_, rfl⟩
    have hn2 : decide (c2 ≤ 0) = true := decide_eq_true (by rw [hc2]; exact cmp3_le0 HFin.out.2.2)
    rw [← hc2] at HE2
    obtain ⟨a0, a1, a2, _⟩ := hVm.cells
    obtain ⟨b0, b1, b2, _⟩ := hVn.cells
    clear hc2 rm1 rm2 rn1 rn2 hbd hVm hVn hQm hQn hKX hKa hKb hBa hBb hQ1 hQ2 HOa HOz HC1 HC2 HC3 HC4 HLZ HS
    rcases Nat.lt_or_eq_of_le HFin.out.2.1 with hlt | heq
    · rw [cmp3_lt hlt] at HE1
      clear hlt HE2
      go_wp2_with fail
      refine HE1.out.mono ?_
      rintro e w6 ⟨rfl, q, rfl⟩
      have HAw := hid (awake_any (WX.drewN q) (HT1.out.below (below_drewN (Below.refl _ _) q)))
      go_wp2_with fail
      refine HAw.out.mono ?_
      rintro e wz ⟨rfl, hst⟩
      have HZZ := hid ((below_drewN HB1.out q).trans (hst.mono (below_drewN HB1.out q).size))
      clear hst
      go_wp2_with fail
      go_ret
      exact ⟨rfl, HZZ.out⟩
    · rw [heq, cmp3_eq] at HE1
      clear heq
      go_wp2_with fail
      refine HE1.out.mono ?_
      rintro e w6 ⟨rfl, q, rfl⟩
      go_wp2_with fail
      refine (HE2.out q).mono ?_
      rintro e w7 ⟨rfl, q2, rfl⟩
      have HAw := hid (awake_any (WX.drewN (q + q2)) (HT1.out.below (below_drewN (Below.refl _ _) (q + q2))))
      go_wp2_with fail
      refine HAw.out.mono ?_
      rintro e wz ⟨rfl, hst⟩
      have HZ3 := hid (below_drewN HB1.out (q + q2))
      have HZZ := hid (HZ3.out.trans (hst.mono HZ3.out.size))
      clear hst
      go_wp2_with fail
      go_ret
      exact ⟨rfl, HZZ.out⟩
  · rename_i hHeld
    have HKX := held6 (N := w5.heap.size) (W0 := w5) hHeld
    clear hHeld
    have hQa : QNorm wb (.agg #[.bool s5, .slice p5 k5 c5, .slice p6 k6 c6]) (fpl (fr x) (fr y)) := by first | exact hQ1.out.below hBb | exact (q_alloc hQ1.out).below hBb | exact (q_alloc (q_alloc hQ1.out)).below hBb
    have hQb := hQ2.out
    refine leaf_world (p := fun W => (Var3 W (wb.heap.size) (.bool s5) (.slice p5 k5 c5) (.slice p6 k6 c6) ∧ Var3 W (w5.heap.size) (.bool s7) (.slice p7 k7 c7) (.slice p8 k8 c8)) ∧ QNorm W (.agg #[.bool s5, .slice p5 k5 c5, .slice p6 k6 c6]) (fpl (fr x) (fr y)) ∧ QNorm W (.agg #[.bool s7, .slice p7 k7 c7, .slice p8 k8 c8]) (fr z) ∧ Below w5.heap.size w5 W) ⟨⟨by repeat (first | with_reducible assumption | with_reducible exact v_alloc | with_reducible exact v_alloc2 | with_reducible refine v_store ?_ | with_reducible refine Var3.other ?_ (by first | assumption | omega) _ _ _ | with_reducible refine v_below ?_), by repeat (first | with_reducible assumption | with_reducible exact v_alloc | with_reducible exact v_alloc2 | with_reducible refine v_store ?_ | with_reducible refine Var3.other ?_ (by first | assumption | omega) _ _ _ | with_reducible refine v_below ?_)⟩, by repeat (first | with_reducible assumption | with_reducible refine q_alloc ?_ | with_reducible refine q_store ?_ (by repeat (first | with_reducible assumption | with_reducible exact v_alloc | with_reducible exact v_alloc2 | with_reducible refine v_store ?_ | with_reducible refine Var3.other ?_ (by first | assumption | omega) _ _ _ | with_reducible refine v_below ?_))), by repeat (first | with_reducible assumption | with_reducible refine q_alloc ?_ | with_reducible refine q_store ?_ (by repeat (first | with_reducible assumption | with_reducible exact v_alloc | with_reducible exact v_alloc2 | with_reducible refine v_store ?_ | with_reducible refine Var3.other ?_ (by first | assumption | omega) _ _ _ | with_reducible refine v_below ?_))), HKX⟩ ?_
    clear hQa hQb HKX
    rintro WX ⟨⟨hVm, hVn⟩, hQm, hQn, hKX⟩
    have HT1 := hid (HT0.out.below hKX)
    have HB1 := hid (HB.out.trans (hKX.mono HB.out.size))
    have HVm := hid hVm
    have HVn := hid hVn
    have hbd := fr_bd HFin.out.1
    obtain ⟨rm1, rm2⟩ := q_parts hQm
    obtain ⟨rn1, rn2⟩ := q_parts hQn
    have HE1 := hid (NatCmp_any _ _ _ _ WX rm2 rn2 (w_16 (Nat.lt_of_le_of_lt HFin.out.2.1 hbd.2)) (w_16 hbd.2))
    have HE2 := hid (fun q => NatCmp_any _ _ _ _ (WX.drewN q) (rm1.below (below_drewN (Below.refl _ _) q)) (rn1.below (below_drewN (Below.refl _ _) q)) (w_16 (Nat.lt_of_le_of_lt HFin.out.2.2 hbd.1)) (w_16 hbd.1))
    obtain ⟨c2, hc2⟩ : ∃ c, c = cmp3 (fpl (fr x) (fr y)).2.1 (fr z).2.1 := ⟨_, rfl⟩
    have hn2 : decide (c2 ≤ 0) = true := decide_eq_true (by rw [hc2]; exact cmp3_le0 HFin.out.2.2)
    rw [← hc2] at HE2
    obtain ⟨a0, a1, a2, _⟩ := hVm.cells
    obtain ⟨b0, b1, b2, _⟩ := hVn.cells
    clear hc2 rm1 rm2 rn1 rn2 hbd hVm hVn hQm hQn hKX hKa hKb hBa hBb hQ1 hQ2 HOa HOz HC1 HC2 HC3 HC4 HLZ HS
    rcases Nat.lt_or_eq_of_le HFin.out.2.1 with hlt | heq
    · rw [cmp3_lt hlt] at HE1
      clear hlt HE2
      go_wp2_with fail
      refine HE1.out.mono ?_
      rintro e w6 ⟨rfl, q, rfl⟩
      have HAw := hid (awake_any (WX.drewN q) (HT1.out.below (below_drewN (Below.refl _ _) q)))
      go_wp2_with fail
      refine HAw.out.mono ?_
      rintro e wz ⟨rfl, hst⟩
      have HZZ := hid ((below_drewN HB1.out q).trans (hst.mono (below_drewN HB1.out q).size))
      clear hst
      go_wp2_with fail
      go_ret
      exact ⟨rfl, HZZ.out⟩
    · rw [heq, cmp3_eq] at HE1
      clear heq
      go_wp2_with fail
      refine HE1.out.mono ?_
      rintro e w6 ⟨rfl, q, rfl⟩
      go_wp2_with fail
      refine (HE2.out q).mono ?_
      rintro e w7 ⟨rfl, q2, rfl⟩
      have HAw := hid (awake_any (WX.drewN (q + q2)) (HT1.out.below (below_drewN (Below.refl _ _) (q + q2))))
      go_wp2_with fail
      refine HAw.out.mono ?_
      rintro e wz ⟨rfl, hst⟩
      have HZ3 := hid (below_drewN HB1.out (q + q2))
      have HZZ := hid (HZ3.out.trans (hst.mono HZ3.out.size))
      clear hst
      go_wp2_with fail
      go_ret
      exact ⟨rfl, HZZ.out⟩
  · rename_i hHeld
    have HKX := held6 (N := w5.heap.size) (W0 := w5) hHeld
    clear hHeld
    have hQa : QNorm wb (.agg #[.bool s5, .slice p5 k5 c5, .slice p6 k6 c6]) (fpl (fr x) (fr y)) := by first | exact hQ1.out.below hBb | exact (q_alloc hQ1.out).below hBb | exact (q_alloc (q_alloc hQ1.out)).below hBb
    have hQb := hQ2.out
    refine leaf_world (p := fun W => (Var3 W (wa.heap.size) (.bool s5) (.slice p5 k5 c5) (.slice p6 k6 c6) ∧ Var3 W (w5.heap.size) (.bool s7) (.slice p7 k7 c7) (.slice p8 k8 c8)) ∧ QNorm W (.agg #[.bool s5, .slice p5 k5 c5, .slice p6 k6 c6]) (fpl (fr x) (fr y)) ∧ QNorm W (.agg #[.bool s7, .slice p7 k7 c7, .slice p8 k8 c8]) (fr z) ∧ Below w5.heap.size w5 W) ⟨⟨by repeat (first | with_reducible assumption | with_reducible exact v_alloc | with_reducible exact v_alloc2 | with_reducible refine v_store ?_ | with_reducible refine Var3.other ?_ (by first | assumption | omega) _ _ _ | with_reducible refine v_below ?_), by repeat (first | with_reducible assumption | with_reducible exact v_alloc | with_reducible exact v_alloc2 | with_reducible refine v_store ?_ | with_reducible refine Var3.other ?_ (by first | assumption | omega) _ _ _ | with_reducible refine v_below ?_)⟩, by repeat (first | with_reducible assumption | with_reducible refine q_alloc ?_ | with_reducible refine q_store ?_ (by repeat (first | with_reducible assumption | with_reducible exact v_alloc | with_reducible exact v_alloc2 | with_reducible refine v_store ?_ | with_reducible refine Var3.other ?_ (by first | assumption | omega) _ _ _ | with_reducible refine v_below ?_))), by repeat (first | with_reducible assumption | with_reducible refine q_alloc ?_ | with_reducible refine q_store ?_ (by repeat (first | with_reducible assumption | with_reducible exact v_alloc | with_reducible exact v_alloc2 | with_reducible refine v_store ?_ | with_reducible refine Var3.other ?_ (by first | assumption | omega) _ _ _ | with_reducible refine v_below ?_))), HKX⟩ ?_
    clear hQa hQb HKX
    rintro WX ⟨⟨hVm, hVn⟩, hQm, hQn, hKX⟩
    have HT1 := hid (HT0.out.below hKX)
    have HB1 := hid (HB.out.trans (hKX.mono HB.out.size))
    have HVm := hid hVm
    have HVn := hid hVn
    have hbd := fr_bd HFin.out.1
    obtain ⟨rm1, rm2⟩ := q_parts hQm
    obtain ⟨rn1, rn2⟩ := q_parts hQn
    have HE1 := hid (NatCmp_any _ _ _ _ WX rm2 rn2 (w_16 (Nat.lt_of_le_of_lt HFin.out.2.1 hbd.2)) (w_16 hbd.2))
    have HE2 := hid (fun q => NatCmp_any _ _ _ _ (WX.drewN q) (rm1.below (below_drewN (Below.refl _ _) q)) (rn1.below (below_drewN (Below.refl _ _) q)) (w_16 (Nat.lt_of_le_of_lt HFin.out.2.2 hbd.1)) (w_16 hbd.1))
    obtain ⟨c2, hc2⟩ : ∃ c, c = cmp3 (fpl (fr x) (fr y)).2.1 (fr z).2.1 := ⟨_, rfl⟩
    have hn2 : decide (c2 ≤ 0) = true := decide_eq_true (by rw [hc2]; exact cmp3_le0 HFin.out.2.2)
    rw [← hc2] at HE2
    obtain ⟨a0, a1, a2, _⟩ := hVm.cells
    obtain ⟨b0, b1, b2, _⟩ := hVn.cells
    clear hc2 rm1 rm2 rn1 rn2 hbd hVm hVn hQm hQn hKX hKa hKb hBa hBb hQ1 hQ2 HOa HOz HC1 HC2 HC3 HC4 HLZ HS
    rcases Nat.lt_or_eq_of_le HFin.out.2.1 with hlt | heq
    · rw [cmp3_lt hlt] at HE1
      clear hlt HE2
      go_wp2_with fail
      refine HE1.out.mono ?_
      rintro e w6 ⟨rfl, q, rfl⟩
      have HAw := hid (awake_any (WX.drewN q) (HT1.out.below (below_drewN (Below.refl _ _) q)))
      go_wp2_with fail
      refine HAw.out.mono ?_
      rintro e wz ⟨rfl, hst⟩
      have HZZ := hid ((below_drewN HB1.out q).trans (hst.mono (below_drewN HB1.out q).size))
      clear hst
      go_wp2_with fail
      go_ret
      exact ⟨rfl, HZZ.out⟩
    · rw [heq, cmp3_eq] at HE1
      clear heq
      go_wp2_with fail
      refine HE1.out.mono ?_
      rintro e w6 ⟨rfl, q, rfl⟩
      go_wp2_with fail
      refine (HE2.out q).mono ?_
      rintro e w7 ⟨rfl, q2, rfl⟩
      have HAw := hid (awake_any (WX.drewN (q + q2)) (HT1.out.below (below_drewN (Below.refl _ _) (q + q2))))
      go_wp2_with fail
      refine HAw.out.mono ?_
      rintro e wz ⟨rfl, hst⟩
      have HZ3 := hid (below_drewN HB1.out (q + q2))
      have HZZ := hid (HZ3.out.trans (hst.mono HZ3.out.size))
      clear hst
      go_wp2_with fail
      go_ret
      exact ⟨rfl, HZZ.out⟩
  · rename_i hHeld
    have HKX := held6 (N := w5.heap.size) (W0 := w5) hHeld
    clear hHeld
    have hQa : QNorm wb (.agg #[.bool s5, .slice p5 k5 c5, .slice p6 k6 c6]) (fpl (fr x) (fr y)) := by first | exact hQ1.out.below hBb | exact (q_alloc hQ1.out).below hBb | exact (q_alloc (q_alloc hQ1.out)).below hBb
    have hQb := hQ2.out
    refine leaf_world (p := fun W => (Var3 W (w5.heap.size + 1) (.bool s5) (.slice p5 k5 c5) (.slice p6 k6 c6) ∧ Var3 W (w5.heap.size) (.bool s7) (.slice p7 k7 c7) (.slice p8 k8 c8)) ∧ QNorm W (.agg #[.bool s5, .slice p5 k5 c5, .slice p6 k6 c6]) (fpl (fr x) (fr y)) ∧ QNorm W (.agg #[.bool s7, .slice p7 k7 c7, .slice p8 k8 c8]) (fr z) ∧ Below w5.heap.size w5 W) ⟨⟨by repeat (first | with_reducible assumption | with_reducible exact v_alloc | with_reducible exact v_alloc2 | with_reducible refine v_store ?_ | with_reducible refine Var3.other ?_ (by first | assumption | omega) _ _ _ | with_reducible refine v_below ?_), by repeat (first | with_reducible assumption | with_reducible exact v_alloc | with_reducible exact v_alloc2 | with_reducible refine v_store ?_ | with_reducible refine Var3.other ?_ (by first | assumption | omega) _ _ _ | with_reducible refine v_below ?_)⟩, by repeat (first | with_reducible assumption | with_reducible refine q_alloc ?_ | with_reducible refine q_store ?_ (by repeat (first | with_reducible assumption | with_reducible exact v_alloc | with_reducible exact v_alloc2 | with_reducible refine v_store ?_ | with_reducible refine Var3.other ?_ (by first | assumption | omega) _ _ _ | with_reducible refine v_below ?_))), by repeat (first | with_reducible assumption | with_reducible refine q_alloc ?_ | with_reducible refine q_store ?_ (by repeat (first | with_reducible assumption | with_reducible exact v_alloc | with_reducible exact v_alloc2 | with_reducible refine v_store ?_ | with_reducible refine Var3.other ?_ (by first | assumption | omega) _ _ _ | with_reducible refine v_below ?_))), HKX⟩ ?_
    clear hQa hQb HKX
    rintro WX ⟨⟨hVm, hVn⟩, hQm, hQn, hKX⟩
    have HT1 := hid (HT0.out.below hKX)
    have HB1 := hid (HB.out.trans (hKX.mono HB.out.size))
    have HVm := hid hVm
    have HVn := hid hVn
    have hbd := fr_bd HFin.out.1
    obtain ⟨rm1, rm2⟩ := q_parts hQm
    obtain ⟨rn1, rn2⟩ := q_parts hQn
    have HE1 := hid (NatCmp_any _ _ _ _ WX rm2 rn2 (w_16 (Nat.lt_of_le_of_lt HFin.out.2.1 hbd.2)) (w_16 hbd.2))
    have HE2 := hid (fun q => NatCmp_any _ _ _ _ (WX.drewN q) (rm1.below (below_drewN (Below.refl _ _) q)) (rn1.below (below_drewN (Below.refl _ _) q)) (w_16 (Nat.lt_of_le_of_lt HFin.out.2.2 hbd.1)) (w_16 hbd.1))
    obtain ⟨c2, hc2⟩ : ∃ c, c = cmp3 (fpl (fr x) (fr y)).2.1 (fr z).2.1 := ⟨_, rfl⟩
    have hn2 : decide (c2 ≤ 0) = true := decide_eq_true (by rw [hc2]; exact cmp3_le0 HFin.out.2.2)
    rw [← hc2] at HE2
    obtain ⟨a0, a1, a2, _⟩ := hVm.cells
    obtain ⟨b0, b1, b2, _⟩ := hVn.cells
    clear hc2 rm1 rm2 rn1 rn2 hbd hVm hVn hQm hQn hKX hKa hKb hBa hBb hQ1 hQ2 HOa HOz HC1 HC2 HC3 HC4 HLZ HS
    rcases Nat.lt_or_eq_of_le HFin.out.2.1 with hlt | heq
    · rw [cmp3_lt hlt] at HE1
      clear hlt HE2
      go_wp2_with fail
      refine HE1.out.mono ?_
      rintro e w6 ⟨rfl, q, rfl⟩
      have HAw := hid (awake_any (WX.drewN q) (HT1.out.below (below_drewN (Below.refl _ _) q)))
      go_wp2_with fail
      refine HAw.out.mono ?_
      rintro e wz ⟨rfl, hst⟩
      have HZZ := hid ((below_drewN HB1.out q).trans (hst.mono (below_drewN HB1.out q).size))
      clear hst
      go_wp2_with fail
      go_ret
      exact ⟨rfl, HZZ.out⟩
    · rw [heq, cmp3_eq] at HE1
      clear heq
      go_wp2_with fail
      refine HE1.out.mono ?_
      rintro e w6 ⟨rfl, q, rfl⟩
      go_wp2_with fail
      refine (HE2.out q).mono ?_
      rintro e w7 ⟨rfl, q2, rfl⟩
      have HAw := hid (awake_any (WX.drewN (q + q2)) (HT1.out.below (below_drewN (Below.refl _ _) (q + q2))))
      go_wp2_with fail
      refine HAw.out.mono ?_
      rintro e wz ⟨rfl, hst⟩
      have HZ3 := hid (below_drewN HB1.out (q + q2))
      have HZZ := hid (HZ3.out.trans (hst.mono HZ3.out.size))
      clear hst
      go_wp2_with fail
      go_ret
      exact ⟨rfl, HZZ.out⟩
end Go.Proofs.YtppllgnoniaafaaDoor
