/- The simplest number between two, in the specification: Plain and Simplest. -/
import Derived.Test.YtppllgnoniaafaaDoorSplR
namespace Go.Proofs.YtppllgnoniaafaaDoor
open Go.RowKit Dg

/-- The simplest number between two positive fractions. -/
def fspl (x y : Bool × Nat × Nat) : Bool × Nat × Nat := (false, (spl x.2.1 x.2.2 y.2.1 y.2.2).1, (spl x.2.1 x.2.2 y.2.1 y.2.2).2)
theorem fspl_frac {x y : Bool × Nat × Nat} (h1 : 0 < x.2.1) (h2 : 0 < x.2.2) (h3 : 0 < y.2.2) (hle : x.2.1 * y.2.2 ≤ y.2.1 * x.2.2) :
    fspl x y = frac false (spl x.2.1 x.2.2 y.2.1 y.2.2).1 (spl x.2.1 x.2.2 y.2.1 y.2.2).2 := by
  have h := spl_facts _ x.2.1 x.2.2 y.2.1 y.2.2 (Nat.le_refl _) h1 h2 h3 hle
  unfold fspl frac
  rw [h.2.2.1, Nat.div_one, Nat.div_one]
  rfl

theorem rPlain_ret {W : World} {B : Nat} {x y z : Value} {tm : Array Value} {R : Ending → World → Prop} (h2 : tm[4]?.getD undef = .pointer (some ⟨B, 0, none⟩)) (hV : Var3 W B x y z) (hR : R (.returned (.agg #[x, y, z])) W) :
    bodyPost Tryd.prog Tryd.f60 R .ret { tmps := tm, defers := [] } W := by
  obtain ⟨c0, c1, c2, _, _, _⟩ := hV.cells
  exact bodyPost_ret (v := .agg #[x, y, z]) (by simp [results, Tryd.results60, go_sem, h2, c0, c1, c2]) rfl hR

set_option maxHeartbeats 16000000 in
set_option maxRecDepth 100000 in
theorem rPlainPos_any (va vb : Value) (x y : Bool × Nat × Nat) (A : Nat) (w : World) (h1 : QNorm w va x) (h2 : QNorm w vb y) (hn1 : x.2.1 < B16 ^ A) (hd1 : x.2.2 < B16 ^ A) (hn2 : y.2.1 < B16 ^ A) (hd2 : y.2.2 < B16 ^ A) (hA1 : 1 ≤ A) (hA : A ≤ 1000)
    (p1 : 0 < x.2.1) (p2 : 0 < x.2.2) (p3 : 0 < y.2.2) (hle : x.2.1 * y.2.2 ≤ y.2.1 * x.2.2) (hs1 : x.1 = false) (hs2 : y.1 = false) (p4 : 0 < y.2.1) :
    Calls Tryd.prog 60 #[va, vb] w fun e w' => ∃ v', e = .returned v' ∧ QNorm w' v' (fspl x y) ∧ Below w.heap.size w w' := by
  have HS1 := hid (fun (W : World) (hW : Below w.heap.size w W) => Sgn_any va x W (h1.below hW) (fun h => by omega))
  have HS2 := hid (fun (W : World) (hW : Below w.heap.size w W) => Sgn_any vb y W (h2.below hW) (fun h => by omega))
  have e1 : sgn x.1 x.2.1 = 1 := by unfold sgn; rw [hs1, if_neg (by decide), if_neg (by omega)]
  have e2 : sgn y.1 y.2.1 = 1 := by unfold sgn; rw [hs2, if_neg (by decide), if_neg (by omega)]
  rw [e1] at HS1
  rw [e2] at HS2
  have HDa := hid (fun (W : World) (hW : Below w.heap.size w W) => den_any va x.1 x.2.1 x.2.2 W (h1.below hW))
  have HDb := hid (fun (W : World) (hW : Below w.heap.size w W) => den_any vb y.1 y.2.1 y.2.2 W (h2.below hW))
  rw [den1_self p2] at HDa
  rw [den1_self p3] at HDb
  have hf := spl_facts _ x.2.1 x.2.2 y.2.1 y.2.2 (Nat.le_refl _) p1 p2 p3 hle
  have hl := spl_le p1 p2 p3 hle
  have HPl := hid (fun (W : World) (v1 v2 v3 v4 : Value) (r1 : Rep B16 W v1 x.2.1) (r2 : Rep B16 W v2 x.2.2) (r3 : Rep B16 W v3 y.2.1) (r4 : Rep B16 W v4 y.2.2) => rplain_any _ v1 v2 v3 v4 x.2.1 x.2.2 y.2.1 y.2.2 A W (Nat.le_refl _) r1 r2 r3 r4 hn1 hd1 hn2 hd2 hA1 hA p1 p2 p3 hle)
  have HMk := hid (fun (W : World) (v1 v2 : Value) (r1 : Rep B16 W v1 (spl x.2.1 x.2.2 y.2.1 y.2.2).1) (r2 : Rep B16 W v2 (spl x.2.1 x.2.2 y.2.1 y.2.2).2) => Make_open false v1 v2 _ _ A W r1 r2 (Nat.lt_of_le_of_lt hl.1 hn1) (Nat.lt_of_le_of_lt hl.2 hd1) (by omega) hf.2.1)
  rw [← fspl_frac p1 p2 p3 hle] at HMk
  clear hn1 hd1 hn2 hd2 hA1 hA p1 p2 p3 p4 hle e1 e2 hf hl
  obtain ⟨S, hS⟩ : ∃ S, S = spl x.2.1 x.2.2 y.2.1 y.2.2 := ⟨_, rfl⟩
  obtain ⟨t, ht⟩ : ∃ S, S = fspl x y := ⟨_, rfl⟩
  rw [← hS] at HPl HMk
  rw [← ht] at HMk ⊢
  clear hS ht
  obtain ⟨va1, va2, rfl, ra1, ra2⟩ := h1
  obtain ⟨vb1, vb2, rfl, rb1, rb2⟩ := h2
  have HR := hid (And.intro (And.intro ra1 ra2) (And.intro rb1 rb2))
  obtain ⟨p1, k1, c1, rfl, _⟩ := ra1
  obtain ⟨p2, k2, c2, rfl, _⟩ := ra2
  obtain ⟨p3, k3, c3, rfl, _⟩ := rb1
  obtain ⟨p4, k4, c4, rfl, _⟩ := rb2
  rw [hs1] at HS1 HDa ⊢
  rw [hs2] at HS2 HDb ⊢
  clear hs1 hs2
  go_enter Tryd.func60, Tryd.ntmps60
  go_upto_region 1 with fail
  have hVa := ((Var3.alloc w (x := .bool false) (y := .slice p1 k1 c1) (z := .slice p2 k2 c2) 40 trivial trivial trivial).below ((Below.refl _ _).alloc (Nat.le_refl _) (.cells #[.bool false, .slice p3 k3 c3, .slice p4 k4 c4] 40))).below ((Below.refl _ _).alloc (Nat.le_refl _) (.cells #[.bool false, .slice none 0 0, .slice none 0 0] 40))
  have hVb := (Var3.alloc2 w (.cells #[.bool false, .slice p1 k1 c1, .slice p2 k2 c2] 40) (x := .bool false) (y := .slice p3 k3 c3) (z := .slice p4 k4 c4) 40 trivial trivial trivial).below ((Below.refl _ _).alloc (Nat.le_refl _) (.cells #[.bool false, .slice none 0 0, .slice none 0 0] 40))
  have hVr := Var3.alloc3 w (.cells #[.bool false, .slice p1 k1 c1, .slice p2 k2 c2] 40) (.cells #[.bool false, .slice p3 k3 c3, .slice p4 k4 c4] 40) (x := .bool false) (y := .slice none 0 0) (z := .slice none 0 0) 40 trivial trivial trivial
  have hB0 := below_alloc3 w (.cells #[.bool false, .slice p1 k1 c1, .slice p2 k2 c2] 40) (.cells #[.bool false, .slice p3 k3 c3, .slice p4 k4 c4] 40) (.cells #[.bool false, .slice none 0 0, .slice none 0 0] 40)
  generalize ((w.alloc (.cells #[.bool false, .slice p1 k1 c1, .slice p2 k2 c2] 40)).alloc (.cells #[.bool false, .slice p3 k3 c3, .slice p4 k4 c4] 40)).alloc (.cells #[.bool false, .slice none 0 0, .slice none 0 0] 40) = W0 at *
  have HV : Hid (Var3 W0 (w.heap.size + 1 + 1) (.bool false) (.slice none 0 0) (.slice none 0 0) ∧ Below w.heap.size w W0) := hid ⟨hVr, hB0⟩
  have HVa := hid hVa
  have HVb := hid hVb
  clear hVa hVb hVr hB0
  obtain ⟨a0, a1, a2, _⟩ := HVa.out.cells
  go_wp2_with fail
  refine (HS1.out _ HV.out.2).mono ?_
  rintro e w1 ⟨rfl, hst⟩
  clear a0 a1 a2
  replace HVa := hid (HVa.out.below hst)
  replace HVb := hid (HVb.out.below hst)
  replace HV := hid (And.intro (HV.out.1.below hst) (HV.out.2.trans (hst.mono HV.out.2.size)))
  clear hst
  obtain ⟨b0, b1, b2, _⟩ := HVb.out.cells
  go_wp2_with fail
  refine (HS2.out _ HV.out.2).mono ?_
  rintro e w2 ⟨rfl, hst⟩
  clear b0 b1 b2
  replace HVa := hid (HVa.out.below hst)
  replace HVb := hid (HVb.out.below hst)
  replace HV := hid (And.intro (HV.out.1.below hst) (HV.out.2.trans (hst.mono HV.out.2.size)))
  clear hst
  have hn2 : w.heap.size + 1 + 1 ≤ w2.heap.size := by obtain ⟨_, h0, _⟩ := HV.out.1; exact Nat.le_of_lt (Array.getElem?_eq_some_iff.1 h0).1
  have HS : Hid (∀ w', Below w2.heap.size w2 w' → (w'.cell? ⟨w.heap.size, 0, none⟩ = some (.bool false) ∧ w'.cell? ⟨w.heap.size, 1, none⟩ = some (.slice p1 k1 c1) ∧ w'.cell? ⟨w.heap.size, 2, none⟩ = some (.slice p2 k2 c2) ∧ w'.cell? ⟨w.heap.size + 1, 0, none⟩ = some (.bool false) ∧ w'.cell? ⟨w.heap.size + 1, 1, none⟩ = some (.slice p3 k3 c3) ∧ w'.cell? ⟨w.heap.size + 1, 2, none⟩ = some (.slice p4 k4 c4) ∧ Hid (Below w2.heap.size w2 w'))) :=
    hid fun w' hb => ⟨(HVa.out.below hb).cells.1, (HVa.out.below hb).cells.2.1, (HVa.out.below hb).cells.2.2.1, (HVb.out.below hb).cells.1, (HVb.out.below hb).cells.2.1, (HVb.out.below hb).cells.2.2.1, hid hb⟩
  go_wp2_with fail
  go_region_held3 (fun w' => w'.cell? ⟨w.heap.size, 0, none⟩ = some (.bool false) ∧ w'.cell? ⟨w.heap.size, 1, none⟩ = some (.slice p1 k1 c1) ∧ w'.cell? ⟨w.heap.size, 2, none⟩ = some (.slice p2 k2 c2) ∧ w'.cell? ⟨w.heap.size + 1, 0, none⟩ = some (.bool false) ∧ w'.cell? ⟨w.heap.size + 1, 1, none⟩ = some (.slice p3 k3 c3) ∧ w'.cell? ⟨w.heap.size + 1, 2, none⟩ = some (.slice p4 k4 c4) ∧ Hid (Below w2.heap.size w2 w'))
    (first | exact HS.out _ (Below.refl _ _).drew | (exact HS.out _ (by assumption)))
    (first
      | (go_at_call_of 52 k1; refine (HDa.out _ (HV.out.2.trans ((held6 (N := w2.heap.size) (W0 := w2) (by assumption)).mono HV.out.2.size))).mono ?_; rintro e wa ⟨v5, rfl, hRa, hBa⟩; have hKa := held_any (held6 (N := w2.heap.size) (W0 := w2) (by assumption)) hBa; obtain ⟨p5, k5, c5, rfl, hx5⟩ := id hRa; clear hx5)
      | (go_at_call_of 52 k3; refine (HDb.out _ (HV.out.2.trans ((held6 (N := w2.heap.size) (W0 := w2) (by assumption)).mono HV.out.2.size))).mono ?_; rintro e wb ⟨v6, rfl, hRb, hBb⟩; have hKb := held_any (held6 (N := w2.heap.size) (W0 := w2) (by assumption)) hBb; obtain ⟨p6, k6, c6, rfl, hx6⟩ := id hRb; clear hx6)
      | (go_at_call 97; have hKp := held6 (N := w2.heap.size) (W0 := w2) (by assumption); refine (HPl.out _ _ _ _ _ (HR.out.1.1.below (HV.out.2.trans (hKp.mono HV.out.2.size))) (by first | exact hRa | exact hRa.below hBb) (HR.out.2.1.below (HV.out.2.trans (hKp.mono HV.out.2.size))) (by first | exact hRb | exact hRb.below hBa)).mono ?_; rintro e wc ⟨v7, v8, rfl, hRn, hRd, hBc⟩; have hKc := held_any hKp hBc))
  all_goals
    rename_i hHeld
    clear hHeld
    have HRS := hid (And.intro hRn hRd)
    have HVc := hid (And.intro (HV.out.1.below hKc) (HV.out.2.trans (hKc.mono HV.out.2.size)))
    clear hRn hRd hKc
    go_wp2_with fail
    refine (HMk.out _ _ _ HRS.out.1 HRS.out.2).mono ?_
    rintro e wf ⟨sg, pa, ka, ca, pb, kb, cb, rfl, HF, hBf⟩
    replace HVc := hid (And.intro (HVc.out.1.below hBf) (HVc.out.2.trans (hBf.mono HVc.out.2.size)))
    clear hBf
    obtain ⟨x0, x1, x2, y0, y1, y2⟩ := HVc.out.1.cells
    go_wp2_with fail
    exact rPlain_ret rfl (HVc.out.1.store trivial trivial trivial) ⟨_, rfl, HF.out.store3 HVc.out.1 _ _ _, below_set3 HVc.out.2 (by show w.heap.size ≤ w.heap.size + 1 + 1; omega)⟩

def fpl (x y : Bool × Nat × Nat) : Bool × Nat × Nat := if 0 < sgn x.1 x.2.1 then fspl x y else if sgn y.1 y.2.1 < 0 then fneg (fspl (fneg y) (fneg x)) else (false, 0, 1)
theorem sgn_posE {s : Bool} {n : Nat} (h : 0 < sgn s n) : s = false ∧ 0 < n := by
  unfold sgn at h
  cases s
  · refine ⟨rfl, ?_⟩
    by_cases h0 : n = 0
    · rw [if_neg (by decide), if_pos h0] at h; exact absurd h (by decide)
    · omega
  · rw [if_pos rfl] at h; exact absurd h (by decide)
theorem sgn_negE {s : Bool} {n : Nat} (h : sgn s n < 0) : s = true := by
  unfold sgn at h
  cases s
  · rw [if_neg (by decide)] at h
    split at h <;> exact absurd h (by decide)
  · rfl
/-- The first end is not greater than the second one. -/
def fle (x y : Bool × Nat × Nat) : Prop := sv x.1 x.2.1 * (y.2.2 : Int) ≤ sv y.1 y.2.1 * (x.2.2 : Int)
theorem fpl_pos {x y : Bool × Nat × Nat} (h : fle x y) (hy : 0 < y.2.2) (h0 : 0 < sgn x.1 x.2.1) :
    x.1 = false ∧ 0 < x.2.1 ∧ y.1 = false ∧ 0 < y.2.1 ∧ x.2.1 * y.2.2 ≤ y.2.1 * x.2.2 := by
  obtain ⟨h1, h2⟩ := sgn_posE h0
  unfold fle at h
  rw [h1] at h
  have h3 : 0 < x.2.1 * y.2.2 := Nat.mul_pos h2 hy
  have e1 : sv false x.2.1 * (y.2.2 : Int) = ((x.2.1 * y.2.2 : Nat) : Int) := by rw [Int.natCast_mul]; rfl
  rw [e1] at h
  cases hs : y.1
  · rw [hs] at h
    have e2 : sv false y.2.1 * (x.2.2 : Int) = ((y.2.1 * x.2.2 : Nat) : Int) := by rw [Int.natCast_mul]; rfl
    rw [e2] at h
    refine ⟨h1, h2, rfl, ?_, by omega⟩
    rcases Nat.eq_zero_or_pos y.2.1 with hz | hz
    · rw [hz, Nat.zero_mul] at h; omega
    · exact hz
  · rw [hs] at h
    have e2 : sv true y.2.1 * (x.2.2 : Int) = -((y.2.1 * x.2.2 : Nat) : Int) := by rw [Int.natCast_mul, ← Int.neg_mul]; rfl
    rw [e2] at h
    omega
theorem fpl_neg {x y : Bool × Nat × Nat} (h : fle x y) (hx : 0 < x.2.2) (zy : y.2.1 = 0 → y.1 = false) (h0 : sgn y.1 y.2.1 < 0) :
    (fneg y).1 = false ∧ 0 < y.2.1 ∧ (fneg x).1 = false ∧ 0 < x.2.1 ∧ y.2.1 * x.2.2 ≤ x.2.1 * y.2.2 := by
  have h1 := sgn_negE h0
  have h2 : 0 < y.2.1 := Nat.pos_of_ne_zero fun h => by rw [zy h] at h1; exact absurd h1 (by decide)
  unfold fle at h
  rw [h1] at h
  have h3 : 0 < y.2.1 * x.2.2 := Nat.mul_pos h2 hx
  have e1 : sv true y.2.1 * (x.2.2 : Int) = -((y.2.1 * x.2.2 : Nat) : Int) := by rw [Int.natCast_mul, ← Int.neg_mul]; rfl
  rw [e1] at h
  cases hs : x.1
  · rw [hs] at h
    have e2 : sv false x.2.1 * (y.2.2 : Int) = ((x.2.1 * y.2.2 : Nat) : Int) := by rw [Int.natCast_mul]; rfl
    rw [e2] at h
    omega
  · rw [hs] at h
    have e2 : sv true x.2.1 * (y.2.2 : Int) = -((x.2.1 * y.2.2 : Nat) : Int) := by rw [Int.natCast_mul, ← Int.neg_mul]; rfl
    rw [e2] at h
    refine ⟨?_, h2, ?_, ?_, by omega⟩
    · unfold fneg; rw [h1]; rfl
    · unfold fneg; rw [hs]; rfl
    · rcases Nat.eq_zero_or_pos x.2.1 with hz | hz
      · rw [hz, Nat.zero_mul] at h; omega
      · exact hz
theorem fpl_fr {x y : Bool × Nat × Nat} (h : fle x y) (hx : 0 < x.2.2) (hy : 0 < y.2.2) (zy : y.2.1 = 0 → y.1 = false) : IsFr (fpl x y) := by
  unfold fpl
  split
  · rename_i h0
    obtain ⟨_, k2, _, k4, k5⟩ := fpl_pos h hy h0
    rw [fspl_frac k2 hx hy k5]
    exact ⟨_, _, _, (spl_facts _ _ _ _ _ (Nat.le_refl _) k2 hx hy k5).2.1, rfl⟩
  · split
    · rename_i h0
      obtain ⟨_, k2, _, k4, k5⟩ := fpl_neg h hx zy h0
      have hp := (spl_facts _ y.2.1 y.2.2 x.2.1 x.2.2 (Nat.le_refl _) k2 hy hx k5).2.1
      have e := fspl_frac (x := fneg y) (y := fneg x) k2 hy hx k5
      have e2 := fneg_frac (s := false) (n := (spl (fneg y).2.1 (fneg y).2.2 (fneg x).2.1 (fneg x).2.2).1) (d := (spl (fneg y).2.1 (fneg y).2.2 (fneg x).2.1 (fneg x).2.2).2) hp
      rw [e, e2]
      exact ⟨_, _, _, hp, rfl⟩
    · exact ⟨false, 0, 1, Nat.one_pos, by unfold frac; simp⟩

set_option maxHeartbeats 16000000 in
set_option maxRecDepth 100000 in
theorem rPlain_any (va vb : Value) (x y : Bool × Nat × Nat) (A : Nat) (w : World) (h1 : QNorm w va x) (h2 : QNorm w vb y) (hn1 : x.2.1 < B16 ^ A) (hd1 : x.2.2 < B16 ^ A) (hn2 : y.2.1 < B16 ^ A) (hd2 : y.2.2 < B16 ^ A) (hA1 : 1 ≤ A) (hA : A ≤ 1000)
    (px : 0 < x.2.2) (py : 0 < y.2.2) (zx : x.2.1 = 0 → x.1 = false) (zy : y.2.1 = 0 → y.1 = false) (hle : fle x y) :
    Calls Tryd.prog 60 #[va, vb] w fun e w' => ∃ v', e = .returned v' ∧ QNorm w' v' (fpl x y) ∧ Below w.heap.size w w' := by
  by_cases h0 : 0 < sgn x.1 x.2.1
  · obtain ⟨k1, k2, k3, k4, k5⟩ := fpl_pos hle py h0
    unfold fpl
    rw [if_pos h0]
    exact rPlainPos_any va vb x y A w h1 h2 hn1 hd1 hn2 hd2 hA1 hA k2 px py k5 k1 k3 k4
  · have HS1 := hid (fun (W : World) (hW : Below w.heap.size w W) => Sgn_any va x W (h1.below hW) zx)
    have HS2 := hid (fun (W : World) (hW : Below w.heap.size w W) => Sgn_any vb y W (h2.below hW) zy)
    have hfp : fpl x y = if sgn y.1 y.2.1 < 0 then fneg (fspl (fneg y) (fneg x)) else (false, 0, 1) := by unfold fpl; rw [if_neg h0]
    have d1 : decide (sgn x.1 x.2.1 ≤ 0) = true := decide_eq_true (by omega)
    by_cases hy0 : sgn y.1 y.2.1 < 0
    · obtain ⟨k1, k2, k3, k4, k5⟩ := fpl_neg hle px zy hy0
      rw [if_pos hy0] at hfp
      have HO1 := hid (fun (W : World) (hW : Below w.heap.size w W) => qopen (t := fneg x) (Opp_any va x W (h1.below hW)))
      have HO2 := hid (fun (W : World) (hW : Below w.heap.size w W) => qopen (t := fneg y) (Opp_any vb y W (h2.below hW)))
      have HP := hid (fun (W : World) (v1 v2 : Value) (q1 : QNorm W v1 (fneg y)) (q2 : QNorm W v2 (fneg x)) => qopen (t := fspl (fneg y) (fneg x)) (rPlainPos_any v1 v2 (fneg y) (fneg x) A W q1 q2 hn2 hd2 hn1 hd1 hA1 hA k2 py px k5 k1 k3 k4))
      have HO3 := hid (fun (W : World) (v1 : Value) (q1 : QNorm W v1 (fspl (fneg y) (fneg x))) => qopen (t := fneg (fspl (fneg y) (fneg x))) (Opp_any v1 _ W q1))
      have d2 : decide (0 ≤ sgn y.1 y.2.1) = false := decide_eq_false (by omega)
      have d3 : decide (sgn y.1 y.2.1 < 0) = true := decide_eq_true hy0
      rw [hfp]
      clear hfp k1 k2 k3 k4 k5 hle hn1 hd1 hn2 hd2 hA1 hA px py zx zy h0 hy0
      obtain ⟨s1, hs1⟩ : ∃ s, s = sgn x.1 x.2.1 := ⟨_, rfl⟩
      obtain ⟨s2, hs2⟩ : ∃ s, s = sgn y.1 y.2.1 := ⟨_, rfl⟩
      rw [← hs1] at HS1 d1
      rw [← hs2] at HS2 d2 d3
      clear hs1 hs2
      obtain ⟨t1, h1'⟩ : ∃ s, s = fspl (fneg y) (fneg x) := ⟨_, rfl⟩
      rw [← h1'] at HP HO3 ⊢
      obtain ⟨t2, h2'⟩ : ∃ s, s = fneg t1 := ⟨_, rfl⟩
      rw [← h2'] at HO3 ⊢
      clear h1' h2'
      obtain ⟨_, _, rfl, ⟨p1, k1, c1, rfl, _⟩, ⟨p2, k2, c2, rfl, _⟩⟩ := h1
      obtain ⟨_, _, rfl, ⟨p3, k3, c3, rfl, _⟩, ⟨p4, k4, c4, rfl, _⟩⟩ := h2
      obtain ⟨sx, hsx⟩ : ∃ s, s = x.1 := ⟨_, rfl⟩
      obtain ⟨sy, hsy⟩ : ∃ s, s = y.1 := ⟨_, rfl⟩
      rw [← hsx] at HS1 HO1 ⊢
      rw [← hsy] at HS2 HO2 ⊢
      clear hsx hsy
      go_enter Tryd.func60, Tryd.ntmps60
      go_upto_region 1 with fail
      have hVa := ((Var3.alloc w (x := .bool sx) (y := .slice p1 k1 c1) (z := .slice p2 k2 c2) 40 trivial trivial trivial).below ((Below.refl _ _).alloc (Nat.le_refl _) (.cells #[.bool sy, .slice p3 k3 c3, .slice p4 k4 c4] 40))).below ((Below.refl _ _).alloc (Nat.le_refl _) (.cells #[.bool false, .slice none 0 0, .slice none 0 0] 40))
      have hVb := (Var3.alloc2 w (.cells #[.bool sx, .slice p1 k1 c1, .slice p2 k2 c2] 40) (x := .bool sy) (y := .slice p3 k3 c3) (z := .slice p4 k4 c4) 40 trivial trivial trivial).below ((Below.refl _ _).alloc (Nat.le_refl _) (.cells #[.bool false, .slice none 0 0, .slice none 0 0] 40))
      have hVr := Var3.alloc3 w (.cells #[.bool sx, .slice p1 k1 c1, .slice p2 k2 c2] 40) (.cells #[.bool sy, .slice p3 k3 c3, .slice p4 k4 c4] 40) (x := .bool false) (y := .slice none 0 0) (z := .slice none 0 0) 40 trivial trivial trivial
      have hB0 := below_alloc3 w (.cells #[.bool sx, .slice p1 k1 c1, .slice p2 k2 c2] 40) (.cells #[.bool sy, .slice p3 k3 c3, .slice p4 k4 c4] 40) (.cells #[.bool false, .slice none 0 0, .slice none 0 0] 40)
      generalize ((w.alloc (.cells #[.bool sx, .slice p1 k1 c1, .slice p2 k2 c2] 40)).alloc (.cells #[.bool sy, .slice p3 k3 c3, .slice p4 k4 c4] 40)).alloc (.cells #[.bool false, .slice none 0 0, .slice none 0 0] 40) = W0 at *
      have HV : Hid (Var3 W0 (w.heap.size + 1 + 1) (.bool false) (.slice none 0 0) (.slice none 0 0) ∧ Below w.heap.size w W0) := hid ⟨hVr, hB0⟩
      have HVa := hid hVa
      have HVb := hid hVb
      clear hVa hVb hVr hB0
      obtain ⟨a0, a1, a2, _⟩ := HVa.out.cells
      go_wp2_with fail
      refine (HS1.out _ HV.out.2).mono ?_
      rintro e w1 ⟨rfl, hst⟩
      clear a0 a1 a2
      replace HVa := hid (HVa.out.below hst)
      replace HVb := hid (HVb.out.below hst)
      replace HV := hid (And.intro (HV.out.1.below hst) (HV.out.2.trans (hst.mono HV.out.2.size)))
      clear hst
      obtain ⟨b0, b1, b2, _⟩ := HVb.out.cells
      go_wp2_with fail
      refine (HS2.out _ HV.out.2).mono ?_
      rintro e w2 ⟨rfl, hst⟩
      clear b0 b1 b2
      replace HVa := hid (HVa.out.below hst)
      replace HVb := hid (HVb.out.below hst)
      replace HV := hid (And.intro (HV.out.1.below hst) (HV.out.2.trans (hst.mono HV.out.2.size)))
      clear hst
      obtain ⟨b0, b1, b2, _⟩ := HVb.out.cells
      go_wp2_with fail
      refine (HS2.out _ HV.out.2).mono ?_
      rintro e w3 ⟨rfl, hst⟩
      clear b0 b1 b2
      replace HVa := hid (HVa.out.below hst)
      replace HVb := hid (HVb.out.below hst)
      replace HV := hid (And.intro (HV.out.1.below hst) (HV.out.2.trans (hst.mono HV.out.2.size)))
      clear hst
      have hn2 : w.heap.size + 1 + 1 ≤ w3.heap.size := by obtain ⟨_, h0, _⟩ := HV.out.1; exact Nat.le_of_lt (Array.getElem?_eq_some_iff.1 h0).1
      have HS : Hid (∀ w', Below (w.heap.size + 1 + 1) w3 w' → (w'.cell? ⟨w.heap.size, 0, none⟩ = some (.bool sx) ∧ w'.cell? ⟨w.heap.size, 1, none⟩ = some (.slice p1 k1 c1) ∧ w'.cell? ⟨w.heap.size, 2, none⟩ = some (.slice p2 k2 c2) ∧ w'.cell? ⟨w.heap.size + 1, 0, none⟩ = some (.bool sy) ∧ w'.cell? ⟨w.heap.size + 1, 1, none⟩ = some (.slice p3 k3 c3) ∧ w'.cell? ⟨w.heap.size + 1, 2, none⟩ = some (.slice p4 k4 c4) ∧ Hid (Below (w.heap.size + 1 + 1) w3 w'))) :=
        hid fun w' hb => ⟨(bcellN hb _ _ (by omega)).trans HVa.out.cells.1, (bcellN hb _ _ (by omega)).trans HVa.out.cells.2.1, (bcellN hb _ _ (by omega)).trans HVa.out.cells.2.2.1, (bcellN hb _ _ (by omega)).trans HVb.out.cells.1, (bcellN hb _ _ (by omega)).trans HVb.out.cells.2.1, (bcellN hb _ _ (by omega)).trans HVb.out.cells.2.2.1, hid hb⟩
      have HBz := hid HV.out.2
      go_wp2_with fail
      go_region_held3 (fun w' => w'.cell? ⟨w.heap.size, 0, none⟩ = some (.bool sx) ∧ w'.cell? ⟨w.heap.size, 1, none⟩ = some (.slice p1 k1 c1) ∧ w'.cell? ⟨w.heap.size, 2, none⟩ = some (.slice p2 k2 c2) ∧ w'.cell? ⟨w.heap.size + 1, 0, none⟩ = some (.bool sy) ∧ w'.cell? ⟨w.heap.size + 1, 1, none⟩ = some (.slice p3 k3 c3) ∧ w'.cell? ⟨w.heap.size + 1, 2, none⟩ = some (.slice p4 k4 c4) ∧ Hid (Below (w.heap.size + 1 + 1) w3 w'))
        (first | exact HS.out _ (Below.refl _ _).drew | (exact HS.out _ (by assumption)) | exact HS.out _ (below_set3 (by assumption) (Nat.le_refl _)))
        (first
          | (go_at_call_of 65 k3; have hKo := held6 (N := w.heap.size + 1 + 1) (W0 := w3) (by assumption); refine (HO2.out _ (HBz.out.trans (hKo.mono (by omega)))).mono ?_; rintro e wa ⟨s5, p5, k5, c5, p6, k6, c6, rfl, hQ1, hBa⟩; have hKa := held_any (by first | assumption | exact (Below.refl _ _).drew) hBa; have hKa2 := below_pre hKa hn2)
          | (go_at_call_of 65 k1; have hKo := held6 (N := w.heap.size + 1 + 1) (W0 := w3) (by assumption); refine (HO1.out _ (HBz.out.trans (hKo.mono (by omega)))).mono ?_; rintro e wb ⟨s7, p7, k7, c7, p8, k8, c8, rfl, hQ2, hBb⟩; have hKb := held_any (by first | assumption | exact (Below.refl _ _).drew) hBb; have hKb2 := below_pre hKb hn2)
          | (go_at_call 60; refine (HP.out _ _ _ (by first | exact hQ1.out | exact hQ1.out.below hBb) (by first | exact hQ2.out | exact hQ2.out.below hBa)).mono ?_; rintro e wc ⟨s9, p9, k9, c9, p10, k10, c10, rfl, hQ3, hBc⟩; have hKc := held_any (by first | assumption | exact (Below.refl _ _).drew) hBc; have hKc2 := below_pre hKc hn2)
          | (go_at_call_of 65 k9; refine (HO3.out _ _ hQ3.out).mono ?_; rintro e wd ⟨sg, pa, ka, ca, pb, kb, cb, rfl, HF, hBd⟩; have hKd := held_any hKc hBd; have hKd2 := below_pre hKd hn2; obtain ⟨x0, x1, x2, y0, y1, y2⟩ := (HV.out.1.below hKd).cells))
      all_goals
        rename_i hHeld
        clear hHeld
        go_wp2_with fail
        exact rPlain_ret rfl ((HV.out.1.below hKd).store trivial trivial trivial) ⟨_, rfl, HF.out.store3 (HV.out.1.below hKd) _ _ _, below_set3 (HV.out.2.trans (hKd.mono HV.out.2.size)) (by show w.heap.size ≤ w.heap.size + 1 + 1; omega)⟩
    · rw [if_neg hy0] at hfp
      rw [hfp]
      have HI := hid (fun (W : World) => qopen (t := (false, 0, 1)) (rInt_any 0 W (by decide) (by decide)))
      have d2 : decide (0 ≤ sgn y.1 y.2.1) = true := decide_eq_true (by omega)
      clear hfp hle hn1 hd1 hn2 hd2 hA1 hA px py zx zy h0 hy0
      obtain ⟨s1, hs1⟩ : ∃ s, s = sgn x.1 x.2.1 := ⟨_, rfl⟩
      obtain ⟨s2, hs2⟩ : ∃ s, s = sgn y.1 y.2.1 := ⟨_, rfl⟩
      rw [← hs1] at HS1 d1
      rw [← hs2] at HS2 d2
      clear hs1 hs2
      obtain ⟨_, _, rfl, ⟨p1, k1, c1, rfl, _⟩, ⟨p2, k2, c2, rfl, _⟩⟩ := h1
      obtain ⟨_, _, rfl, ⟨p3, k3, c3, rfl, _⟩, ⟨p4, k4, c4, rfl, _⟩⟩ := h2
      obtain ⟨sx, hsx⟩ : ∃ s, s = x.1 := ⟨_, rfl⟩
      obtain ⟨sy, hsy⟩ : ∃ s, s = y.1 := ⟨_, rfl⟩
      rw [← hsx] at HS1 ⊢
      rw [← hsy] at HS2 ⊢
      clear hsx hsy
      go_enter Tryd.func60, Tryd.ntmps60
      go_upto_region 1 with fail
      have hVa := ((Var3.alloc w (x := .bool sx) (y := .slice p1 k1 c1) (z := .slice p2 k2 c2) 40 trivial trivial trivial).below ((Below.refl _ _).alloc (Nat.le_refl _) (.cells #[.bool sy, .slice p3 k3 c3, .slice p4 k4 c4] 40))).below ((Below.refl _ _).alloc (Nat.le_refl _) (.cells #[.bool false, .slice none 0 0, .slice none 0 0] 40))
      have hVb := (Var3.alloc2 w (.cells #[.bool sx, .slice p1 k1 c1, .slice p2 k2 c2] 40) (x := .bool sy) (y := .slice p3 k3 c3) (z := .slice p4 k4 c4) 40 trivial trivial trivial).below ((Below.refl _ _).alloc (Nat.le_refl _) (.cells #[.bool false, .slice none 0 0, .slice none 0 0] 40))
      have hVr := Var3.alloc3 w (.cells #[.bool sx, .slice p1 k1 c1, .slice p2 k2 c2] 40) (.cells #[.bool sy, .slice p3 k3 c3, .slice p4 k4 c4] 40) (x := .bool false) (y := .slice none 0 0) (z := .slice none 0 0) 40 trivial trivial trivial
      have hB0 := below_alloc3 w (.cells #[.bool sx, .slice p1 k1 c1, .slice p2 k2 c2] 40) (.cells #[.bool sy, .slice p3 k3 c3, .slice p4 k4 c4] 40) (.cells #[.bool false, .slice none 0 0, .slice none 0 0] 40)
      generalize ((w.alloc (.cells #[.bool sx, .slice p1 k1 c1, .slice p2 k2 c2] 40)).alloc (.cells #[.bool sy, .slice p3 k3 c3, .slice p4 k4 c4] 40)).alloc (.cells #[.bool false, .slice none 0 0, .slice none 0 0] 40) = W0 at *
      have HV : Hid (Var3 W0 (w.heap.size + 1 + 1) (.bool false) (.slice none 0 0) (.slice none 0 0) ∧ Below w.heap.size w W0) := hid ⟨hVr, hB0⟩
      have HVa := hid hVa
      have HVb := hid hVb
      clear hVa hVb hVr hB0
      obtain ⟨a0, a1, a2, _⟩ := HVa.out.cells
      go_wp2_with fail
      refine (HS1.out _ HV.out.2).mono ?_
      rintro e w1 ⟨rfl, hst⟩
      clear a0 a1 a2
      replace HVa := hid (HVa.out.below hst)
      replace HVb := hid (HVb.out.below hst)
      replace HV := hid (And.intro (HV.out.1.below hst) (HV.out.2.trans (hst.mono HV.out.2.size)))
      clear hst
      obtain ⟨b0, b1, b2, _⟩ := HVb.out.cells
      go_wp2_with fail
      refine (HS2.out _ HV.out.2).mono ?_
      rintro e w2 ⟨rfl, hst⟩
      clear b0 b1 b2
      replace HVa := hid (HVa.out.below hst)
      replace HVb := hid (HVb.out.below hst)
      replace HV := hid (And.intro (HV.out.1.below hst) (HV.out.2.trans (hst.mono HV.out.2.size)))
      clear hst
      go_wp2_with fail
      refine (HI.out _).mono ?_
      rintro e wf ⟨sg, pa, ka, ca, pb, kb, cb, rfl, HF, hst⟩
      replace HVa := hid (HVa.out.below hst)
      replace HVb := hid (HVb.out.below hst)
      replace HV := hid (And.intro (HV.out.1.below hst) (HV.out.2.trans (hst.mono HV.out.2.size)))
      clear hst
      obtain ⟨x0, x1, x2, y0, y1, y2⟩ := HV.out.1.cells
      go_wp2_with fail
      exact rPlain_ret rfl (HV.out.1.store trivial trivial trivial) ⟨_, rfl, HF.out.store3 HV.out.1 _ _ _, below_set3 HV.out.2 (by show w.heap.size ≤ w.heap.size + 1 + 1; omega)⟩
end Go.Proofs.YtppllgnoniaafaaDoor
