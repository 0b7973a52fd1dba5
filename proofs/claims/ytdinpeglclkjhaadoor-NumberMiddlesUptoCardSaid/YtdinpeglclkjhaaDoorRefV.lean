/- The specification's Diff and Cmp. -/
import Derived.Test.YtdinpeglclkjhaaDoorRefU
namespace Go.Proofs.YtdinpeglclkjhaaDoor
open Go.RowKit Dg

theorem sgn_frac {s : Bool} {n d : Nat} (hd : 0 < d) : sgn (frac s n d).1 (frac s n d).2.1 = if n = 0 then 0 else if s then -1 else 1 := by
  have hz : n / Nat.gcd n d = 0 ↔ n = 0 := by
    constructor
    · intro h
      have := Nat.div_mul_cancel (Nat.gcd_dvd_left n d)
      rw [h, Nat.zero_mul] at this
      exact this.symm
    · intro h; rw [h, Nat.zero_div]
  have _ := hd
  unfold sgn frac
  by_cases h : n = 0
  · have h2 := hz.2 h
    simp [h]
  · have h2 : ¬ n / Nat.gcd n d = 0 := fun h3 => h (hz.1 h3)
    cases s <;> simp [h, h2]
theorem fsub_ways (a b : Bool × Nat × Nat) : (a.1 = (!b.1 && decide (b.2.1 ≠ 0)) ∧ fsub a b = frac a.1 (a.2.1 * b.2.2 + b.2.1 * a.2.2) (a.2.2 * b.2.2)) ∨
    (¬ a.1 = (!b.1 && decide (b.2.1 ≠ 0)) ∧ a.2.1 * b.2.2 < b.2.1 * a.2.2 ∧ fsub a b = frac (!b.1 && decide (b.2.1 ≠ 0)) (b.2.1 * a.2.2 - a.2.1 * b.2.2) (a.2.2 * b.2.2)) ∨
    (¬ a.1 = (!b.1 && decide (b.2.1 ≠ 0)) ∧ ¬ a.2.1 * b.2.2 < b.2.1 * a.2.2 ∧ fsub a b = frac a.1 (a.2.1 * b.2.2 - b.2.1 * a.2.2) (a.2.2 * b.2.2)) := by
  by_cases h : a.1 = (!b.1 && decide (b.2.1 ≠ 0))
  · exact .inl ⟨h, if_pos h⟩
  · by_cases h2 : a.2.1 * b.2.2 < b.2.1 * a.2.2
    · exact .inr (.inl ⟨h, h2, (if_neg h).trans (if_pos h2)⟩)
    · exact .inr (.inr ⟨h, h2, (if_neg h).trans (if_neg h2)⟩)
theorem sub_signs {s1 s2 z : Bool} {X Y : Nat} (hz : z = decide (Y ≠ 0)) :
    (s1 = (!s2 && z) → (if X + Y = 0 then (0 : Int) else if s1 then -1 else 1) = cmpI (sv s1 X) (sv s2 Y)) ∧
    (¬ s1 = (!s2 && z) → X < Y → (if Y - X = 0 then (0 : Int) else if (!s2 && z) then -1 else 1) = cmpI (sv s1 X) (sv s2 Y)) ∧
    (¬ s1 = (!s2 && z) → ¬ X < Y → (if X - Y = 0 then (0 : Int) else if s1 then -1 else 1) = cmpI (sv s1 X) (sv s2 Y)) := by
  unfold cmpI sv
  by_cases hy : Y = 0
  · subst hy
    have : z = false := by rw [hz]; rfl
    subst this
    refine ⟨?_, ?_, ?_⟩
    all_goals
      cases s1 <;> cases s2 <;> simp <;> (try split) <;> (try split) <;> (try split) <;> first | rfl | omega
  · have : z = true := by rw [hz]; exact decide_eq_true hy
    subst this
    refine ⟨?_, ?_, ?_⟩
    all_goals
      cases s1 <;> cases s2 <;> simp <;> (try intro) <;> (try split) <;> (try split) <;> (try split) <;> first | rfl | omega
theorem fsub_sgn {a b : Bool × Nat × Nat} (ha : 0 < a.2.2) (hb : 0 < b.2.2) : sgn (fsub a b).1 (fsub a b).2.1 = fcmp a b := by
  have hd : 0 < a.2.2 * b.2.2 := Nat.mul_pos ha hb
  have e1 : sv a.1 a.2.1 * (b.2.2 : Int) = sv a.1 (a.2.1 * b.2.2) := by unfold sv; cases a.1 <;> simp [Int.neg_mul]
  have e2 : sv b.1 b.2.1 * (a.2.2 : Int) = sv b.1 (b.2.1 * a.2.2) := by unfold sv; cases b.1 <;> simp [Int.neg_mul]
  have hz : decide (b.2.1 ≠ 0) = decide (b.2.1 * a.2.2 ≠ 0) := by
    apply decide_eq_decide.2
    constructor
    · intro h h2
      rcases Nat.mul_eq_zero.1 h2 with h3 | h3
      · exact h h3
      · exact absurd h3 (Nat.ne_of_gt ha)
    · intro h h2; rw [h2, Nat.zero_mul] at h; exact h rfl
  unfold fcmp
  rw [e1, e2]
  have hs := sub_signs (s1 := a.1) (s2 := b.1) (X := a.2.1 * b.2.2) hz
  rcases fsub_ways a b with ⟨h, e⟩ | ⟨h, h2, e⟩ | ⟨h, h2, e⟩
  · rw [e, sgn_frac hd]; exact hs.1 h
  · rw [e, sgn_frac hd]; exact hs.2.1 h h2
  · rw [e, sgn_frac hd]; exact hs.2.2 h h2
theorem fsub_zs {a b : Bool × Nat × Nat} (ha : 0 < a.2.2) (hb : 0 < b.2.2) : (fsub a b).2.1 = 0 → (fsub a b).1 = false := by
  have hd : 0 < a.2.2 * b.2.2 := Nat.mul_pos ha hb
  rcases fsub_ways a b with ⟨h, e⟩ | ⟨h, h2, e⟩ | ⟨h, h2, e⟩
  all_goals
    rw [e]
    exact frac_zero_sign hd

set_option maxHeartbeats 4000000 in
set_option maxRecDepth 100000 in
theorem rDiff_any (va vb : Value) (x y : Bool × Nat × Nat) (A : Nat) (w : World) (ha : QNorm w va x) (hb : QNorm w vb y)
    (hn1 : x.2.1 < B16 ^ A) (hd1 : x.2.2 < B16 ^ A) (hn2 : y.2.1 < B16 ^ A) (hd2 : y.2.2 < B16 ^ A) (hA : A ≤ 1000000) (h1 : 0 < x.2.2) (h2 : 0 < y.2.2) :
    Calls Tryd.prog 73 #[va, vb] w fun e w' => ∃ v', e = .returned v' ∧ QNorm w' v' (fsub x y) ∧ Below w.heap.size w w' := by
  have HOp := hid (fun (W : World) (hW : Below w.heap.size w W) => qopen (t := fneg y) (Opp_any vb y W (hb.below hW)))
  have HSm := hid (fun (W : World) (v : Value) (hW : Below w.heap.size w W) (hq : QNorm W v (fneg y)) => qopen (t := fsub x y) (rSum_any va v x.1 x.2.1 x.2.2 (fneg y).1 y.2.1 y.2.2 A W (ha.below hW) hq hn1 hd1 hn2 hd2 hA h1 h2))
  clear hn1 hd1 hn2 hd2 h1 h2 hA
  obtain ⟨vn1, vd1, rfl, ⟨p1, k1, c1, rfl, _⟩, ⟨p2, k2, c2, rfl, _⟩⟩ := ha
  obtain ⟨vn2, vd2, rfl, ⟨p3, k3, c3, rfl, _⟩, ⟨p4, k4, c4, rfl, _⟩⟩ := hb
  obtain ⟨s1, hs1⟩ : ∃ s, s = x.1 := ⟨_, rfl⟩
  obtain ⟨s2, hs2⟩ : ∃ s, s = y.1 := ⟨_, rfl⟩
  rw [← hs1] at HSm ⊢
  rw [← hs2] at HOp ⊢
  clear hs1 hs2
  obtain ⟨t, ht⟩ : ∃ t, t = fsub x y := ⟨_, rfl⟩
  obtain ⟨u, hu⟩ : ∃ t, t = fneg y := ⟨_, rfl⟩
  rw [← ht] at HSm ⊢
  rw [← hu] at HSm HOp
  clear ht hu
  go_enter Tryd.func73, Tryd.ntmps73
  go_wp2_with fail
  have hVa : Var3 (w.alloc (.cells #[.bool s1, .slice p1 k1 c1, .slice p2 k2 c2] 34)) w.heap.size (.bool s1) (.slice p1 k1 c1) (.slice p2 k2 c2) := Var3.alloc w 34 trivial trivial trivial
  have hVb := Var3.alloc2 w (.cells #[.bool s1, .slice p1 k1 c1, .slice p2 k2 c2] 34) (x := .bool s2) (y := .slice p3 k3 c3) (z := .slice p4 k4 c4) 34 trivial trivial trivial
  have hVr := Var3.alloc3 w (.cells #[.bool s1, .slice p1 k1 c1, .slice p2 k2 c2] 34) (.cells #[.bool s2, .slice p3 k3 c3, .slice p4 k4 c4] 34) (x := .bool false) (y := .slice none 0 0) (z := .slice none 0 0) 34 trivial trivial trivial
  have hB0 := below_alloc3 w (.cells #[.bool s1, .slice p1 k1 c1, .slice p2 k2 c2] 34) (.cells #[.bool s2, .slice p3 k3 c3, .slice p4 k4 c4] 34) (.cells #[.bool false, .slice none 0 0, .slice none 0 0] 34)
  have hVa' := (hVa.below ((Below.refl _ _).alloc (Nat.le_refl _) (.cells #[.bool s2, .slice p3 k3 c3, .slice p4 k4 c4] 34))).below ((Below.refl _ _).alloc (Nat.le_refl _) (.cells #[.bool false, .slice none 0 0, .slice none 0 0] 34))
  have hVb' := hVb.below ((Below.refl _ _).alloc (Nat.le_refl _) (.cells #[.bool false, .slice none 0 0, .slice none 0 0] 34))
  clear hVa hVb
  generalize hW0 : ((w.alloc (.cells #[.bool s1, .slice p1 k1 c1, .slice p2 k2 c2] 34)).alloc (.cells #[.bool s2, .slice p3 k3 c3, .slice p4 k4 c4] 34)).alloc (.cells #[.bool false, .slice none 0 0, .slice none 0 0] 34) = W0 at *
  clear hW0
  have hn2 : w.heap.size + 1 + 1 ≤ W0.heap.size := by obtain ⟨_, h0, _⟩ := hVr; exact Nat.le_of_lt (Array.getElem?_eq_some_iff.1 h0).1
  have HV := hid (And.intro hVr hB0)
  have HB0 := hid hB0
  have HS : Hid (∀ w', Below (w.heap.size + 1 + 1) W0 w' → (w'.cell? ⟨w.heap.size, 0, none⟩ = some (.bool s1) ∧ w'.cell? ⟨w.heap.size, 1, none⟩ = some (.slice p1 k1 c1) ∧ w'.cell? ⟨w.heap.size, 2, none⟩ = some (.slice p2 k2 c2) ∧ w'.cell? ⟨w.heap.size + 1, 0, none⟩ = some (.bool s2) ∧ w'.cell? ⟨w.heap.size + 1, 1, none⟩ = some (.slice p3 k3 c3) ∧ w'.cell? ⟨w.heap.size + 1, 2, none⟩ = some (.slice p4 k4 c4) ∧ Hid (Below (w.heap.size + 1 + 1) W0 w'))) :=
    hid fun w' hb => ⟨(bcellN hb _ _ (by omega)).trans hVa'.cells.1, (bcellN hb _ _ (by omega)).trans hVa'.cells.2.1, (bcellN hb _ _ (by omega)).trans hVa'.cells.2.2.1, (bcellN hb _ _ (by omega)).trans hVb'.cells.1, (bcellN hb _ _ (by omega)).trans hVb'.cells.2.1, (bcellN hb _ _ (by omega)).trans hVb'.cells.2.2.1, hid hb⟩
  clear hVa' hVb' hVr hB0
  go_region_held3 (fun w' => w'.cell? ⟨w.heap.size, 0, none⟩ = some (.bool s1) ∧ w'.cell? ⟨w.heap.size, 1, none⟩ = some (.slice p1 k1 c1) ∧ w'.cell? ⟨w.heap.size, 2, none⟩ = some (.slice p2 k2 c2) ∧ w'.cell? ⟨w.heap.size + 1, 0, none⟩ = some (.bool s2) ∧ w'.cell? ⟨w.heap.size + 1, 1, none⟩ = some (.slice p3 k3 c3) ∧ w'.cell? ⟨w.heap.size + 1, 2, none⟩ = some (.slice p4 k4 c4) ∧ Hid (Below (w.heap.size + 1 + 1) W0 w'))
    (first | exact HS.out _ (Below.refl _ _).drew | (exact HS.out _ (by assumption)) | exact HS.out _ (below_set3 (by assumption) (Nat.le_refl _)))
    (first
      | (go_at_call 31; refine (HOp.out _ HB0.out.drew).mono ?_; rintro e wo ⟨so, po, ko, co, ro, lo, do1, rfl, hQo, hBo⟩; have hKo := held_any (Below.refl W0.heap.size W0).drew hBo; have hKo2 := below_pre hKo hn2)
      | (go_at_call 77; refine (HSm.out _ _ (HB0.out.trans (hKo.mono HB0.out.size)) hQo.out).mono ?_; rintro e wf ⟨sg, pa, ka, ca, pb, kb, cb, rfl, HF, hBf⟩; have hKf := held_any hKo hBf; have hKf2 := below_pre hKf hn2; obtain ⟨x0, x1, x2, y0, y1, y2⟩ := (HV.out.1.below hKf).cells))
  all_goals
    rename_i hHeld
    clear hHeld
    go_wp2_with fail
    exact rDiff_ret rfl ((HV.out.1.below hKf).store trivial trivial trivial) ⟨_, rfl, HF.out.store3 (HV.out.1.below hKf) _ _ _, below_set3 (HV.out.2.trans (hKf.mono HV.out.2.size)) (by show w.heap.size ≤ w.heap.size + 1 + 1; omega)⟩

set_option maxHeartbeats 4000000 in
set_option maxRecDepth 100000 in
theorem rCmp_any (va vb : Value) (x y : Bool × Nat × Nat) (A : Nat) (w : World) (ha : QNorm w va x) (hb : QNorm w vb y)
    (hn1 : x.2.1 < B16 ^ A) (hd1 : x.2.2 < B16 ^ A) (hn2 : y.2.1 < B16 ^ A) (hd2 : y.2.2 < B16 ^ A) (hA : A ≤ 1000000) (h1 : 0 < x.2.2) (h2 : 0 < y.2.2) :
    Calls Tryd.prog 34 #[va, vb] w fun e w' => e = .returned (.int .i64 (fcmp x y)) ∧ Below w.heap.size w w' := by
  have HDf := hid (fun (W : World) (hW : Below w.heap.size w W) => qopen (t := fsub x y) (rDiff_any va vb x y A W (ha.below hW) (hb.below hW) hn1 hd1 hn2 hd2 hA h1 h2))
  have HSg := hid (fun (W : World) (v : Value) (hq : QNorm W v (fsub x y)) => Sgn_any v (fsub x y) W hq (fsub_zs h1 h2))
  rw [fsub_sgn h1 h2] at HSg
  clear hn1 hd1 hn2 hd2 h1 h2 hA
  obtain ⟨vn1, vd1, rfl, ⟨p1, k1, c1, rfl, _⟩, ⟨p2, k2, c2, rfl, _⟩⟩ := ha
  obtain ⟨vn2, vd2, rfl, ⟨p3, k3, c3, rfl, _⟩, ⟨p4, k4, c4, rfl, _⟩⟩ := hb
  obtain ⟨s1, hs1⟩ : ∃ s, s = x.1 := ⟨_, rfl⟩
  obtain ⟨s2, hs2⟩ : ∃ s, s = y.1 := ⟨_, rfl⟩
  rw [← hs1, ← hs2] at HDf
  rw [← hs1, ← hs2]
  clear hs1 hs2
  obtain ⟨t, ht⟩ : ∃ t, t = fsub x y := ⟨_, rfl⟩
  obtain ⟨g, hg⟩ : ∃ t, t = fcmp x y := ⟨_, rfl⟩
  rw [← ht] at HSg HDf
  rw [← hg] at HSg ⊢
  clear ht hg
  go_enter Tryd.func34, Tryd.ntmps34
  go_wp2_with fail
  have hB0 := below_alloc2 w (.cells #[.bool s1, .slice p1 k1 c1, .slice p2 k2 c2] 34) (.cells #[.bool s2, .slice p3 k3 c3, .slice p4 k4 c4] 34)
  refine (HDf.out _ hB0).mono ?_
  rintro e wo ⟨so, po, ko, co, ro, lo, do1, rfl, hQo, hBo⟩
  have HB := hid (hB0.trans (hBo.mono hB0.size))
  clear hB0 hBo
  go_wp2_with fail
  refine (HSg.out _ _ hQo.out).mono ?_
  rintro e wf ⟨rfl, hBf⟩
  have HZ := hid (HB.out.trans (hBf.mono HB.out.size))
  go_wp2_with fail
  go_ret
  exact ⟨rfl, HZ.out⟩
end Go.Proofs.YtdinpeglclkjhaaDoor
