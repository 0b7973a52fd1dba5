/- Grids: what Down and Up of a fraction are, and that both ways to say it agree. Grids of the program: onGrid, Down and Up of a fraction, round, Down, Up, Floor and Ceil of a number. Grids of the program: round, Down, Up, Floor and Ceil of a number. The natural numbers of the specification: shifts of any length. Grids of the specification: Scaled, GridDown, GridUp. Grids of the specification: GridDown, GridUp, Floor, Ceil, Grid. -/
import Derived.Test.YtheojajaefjecaaGreatDoorRefY
set_option maxHeartbeats 8000000
set_option maxRecDepth 100000
namespace Go.Proofs.YtheojajaefjecaaGreatDoor
open Go.RowKit Dg
def gdn (t : Bool × Nat × Nat) (p : Nat) : Bool × Nat × Nat := frac t.1 (botn (t.1, t.2.1 * 2 ^ p, t.2.2)) (2 ^ p)
def gup (t : Bool × Nat × Nat) (p : Nat) : Bool × Nat × Nat := fneg (gdn (fneg t) p)
theorem botn_le (t : Bool × Nat × Nat) : botn t ≤ t.2.1 + 1 := by
 have := Nat.div_le_self t.2.1 t.2.2
 unfold botn
 split <;> omega
theorem gdn_fr {t : Bool × Nat × Nat} (p : Nat) : IsFr (gdn t p) := ⟨_, _, _, Nat.pow_pos (by decide), rfl⟩
theorem gup_fr {t : Bool × Nat × Nat} (p : Nat) : IsFr (gup t p) := by
 refine ⟨!(fneg t).1, botn ((fneg t).1, (fneg t).2.1 * 2 ^ p, (fneg t).2.2), 2 ^ p, Nat.pow_pos (by decide), ?_⟩
 unfold gup gdn
 exact fneg_frac (Nat.pow_pos (by decide))
end Go.Proofs.YtheojajaefjecaaGreatDoor
namespace Go.Proofs.YtheojajaefjecaaGreatDoor
open Go.RowKit Dg
theorem two_Wk {p k : Nat} (hp : p < 32 * k) : 2 ^ p < W32 ^ k := by
 have h : (2 : Nat) ^ p < 2 ^ (32 * k) := Nat.pow_lt_pow_right (by decide) hp
 rwa [Nat.pow_mul] at h
theorem two_W {p : Nat} (hp : p ≤ 1000000) : 2 ^ p < W32 ^ 31251 := by
 generalize hk : 31251 = k
 exact two_Wk (by omega)
theorem shg_W {x A p : Nat} (hx : x < W32 ^ A) (hp : p ≤ 1000000) : x * 2 ^ p < W32 ^ (A + 31251) := by
 rw [Nat.pow_add]
 exact Nat.mul_lt_mul'' hx (two_W hp)
theorem lt_1m {x a : Nat} (h : x < W32 ^ a) (ha : a ≤ 1000000) : x < W32 ^ 1000000 := by
 generalize 1000000 = b at *
 exact lt_pow h ha
theorem succ_W {q A : Nat} (hq : q < W32 ^ A) : q + 1 < W32 ^ (A + 1) := by
 rw [Nat.pow_succ]
 have : W32 ^ A * 2 ≤ W32 ^ A * W32 := Nat.mul_le_mul_left _ (by decide)
 have h0 : 0 < W32 ^ A := Nat.pow_pos W32_pos
 omega
theorem onGrid_ret {W : World} {B : Nat} {x y z : Value} {tm : Array Value} {R : Ending → World → Prop} (h2 : tm[6]?.getD undef = .pointer (some ⟨B, 0, none⟩)) (hV : Var3 W B x y z) (hR : R (.returned (.agg #[x, y, z])) W) :
  bodyPost Tryz.prog Tryz.f216 R .ret { tmps := tm, defers := [] } W := by
 obtain ⟨c0, c1, c2, _, _, _⟩ := hV.cells
 exact bodyPost_ret (v := .agg #[x, y, z]) (by simp [results, Tryz.results216, go_sem, h2, c0, c1, c2]) rfl hR
theorem onGrid_any (s : Bool) (vn : Value) (n p : Nat) (w : World) (h : Rep W32 w vn n) (hn : n < W32 ^ 1000000) (hp : p ≤ 1000000) (ht : TabOk w) :
  Calls Tryz.prog 216 #[.bool s, vn, .int .i64 (p : Int)] w fun e w' => ∃ v', e = .returned v' ∧ FNorm w' v' (frac s n (2 ^ p)) ∧ Below w.heap.size w w' := by
 have HR := hid (And.intro h ht)
 have HOf := hid (fun (W : World) => FromUint_any 1 W (by decide))
 have HSh := hid (fun (W : World) (v1 : Value) (h1 : Rep W32 W v1 1) => (show Calls Tryz.prog 214 #[v1, .int .i64 (p : Int)] W fun e w' => ∃ v, e = .returned v ∧ Rep W32 w' v (2 ^ p) ∧ Below W.heap.size W w' by have := Shl_any v1 1 p W h1 (lt_big (a := 1) (by decide) (by omega)) (by omega); rwa [Nat.one_mul] at this))
 have HNw := hid (fun (W : World) (v1 v2 : Value) (h1 : Rep W32 W v1 n) (h2 : Rep W32 W v2 (2 ^ p)) (h3 : TabOk W) => fopen (t := frac s n (2 ^ p)) (New_any s v1 v2 n (2 ^ p) W h1 h2 (lt_20 hn (by omega)) (lt_20 (two_W hp) (by omega)) (Nat.pow_pos (by decide)) h3))
 clear hn hp ht
 obtain ⟨p1, k1, c1, rfl, _⟩ := h
 obtain ⟨r, hr⟩ : ∃ r, r = frac s n (2 ^ p) := ⟨_, rfl⟩
 rw [← hr] at HNw ⊢
 clear hr
 go_enter Tryz.func216, Tryz.ntmps216
 go_upto_region 1 with fail
 have hK := (Below.refl w.heap.size w).alloc (Nat.le_refl _) (.cells #[.bool false, .slice none 0 0, .slice none 0 0] 55)
 have hV := Var3.alloc w (x := .bool false) (y := .slice none 0 0) (z := .slice none 0 0) 55 trivial trivial trivial
 generalize w.alloc (.cells #[.bool false, .slice none 0 0, .slice none 0 0] 55) = W0 at *
 have HV := hid (And.intro hV hK)
 clear hV hK
 go_wp2_with fail
 refine (HOf.out W0).mono ?_
 rintro e w1 ⟨v1, rfl, hR1, hB1⟩
 go_wp2_with fail
 refine (HSh.out _ _ hR1).mono ?_
 rintro e w2 ⟨v2, rfl, hR2, hB2⟩
 have hst := held_any hB1 hB2
 clear hB1 hB2 hR1
 have hK2 := HV.out.2.trans (hst.mono HV.out.2.size)
 go_wp2_with fail
 refine (HNw.out _ _ _ (HR.out.1.below hK2) hR2 (HR.out.2.below hK2)).mono ?_
 rintro e w3 ⟨sg, pa, ka, ca, pb, kb, cb, rfl, HF, hB3⟩
 have hst3 := held_any hst hB3
 have HV3 := hid (And.intro (HV.out.1.below hst3) (HV.out.2.trans (hst3.mono HV.out.2.size)))
 clear hst hB3 hst3 hK2 hR2
 obtain ⟨x0, x1, x2, y0, y1, y2⟩ := HV3.out.1.cells
 go_wp2_with fail
 exact onGrid_ret rfl (HV3.out.1.store trivial trivial trivial) ⟨_, rfl, HF.out.store3 HV3.out.1 _ _ _, below_set3 HV3.out.2 (Nat.le_refl _)⟩
theorem FracDown_ret {W : World} {B : Nat} {x y z : Value} {tm : Array Value} {R : Ending → World → Prop} (h2 : tm[4]?.getD undef = .pointer (some ⟨B, 0, none⟩)) (hV : Var3 W B x y z) (hR : R (.returned (.agg #[x, y, z])) W) :
  bodyPost Tryz.prog Tryz.f183 R .ret { tmps := tm, defers := [] } W := by
 obtain ⟨c0, c1, c2, _, _, _⟩ := hV.cells
 exact bodyPost_ret (v := .agg #[x, y, z]) (by simp [results, Tryz.results183, go_sem, h2, c0, c1, c2]) rfl hR
theorem FracDown_any (v : Value) (t : Bool × Nat × Nat) (p : Nat) (w : World) (h : FNorm w v t) (hn : t.2.1 < W32 ^ 100000) (hd : t.2.2 < W32 ^ 100000) (h0 : 0 < t.2.2) (hp : p ≤ 1000000) (ht : TabOk w) :
  Calls Tryz.prog 183 #[v, .int .i64 (p : Int)] w fun e w' => ∃ v', e = .returned v' ∧ FNorm w' v' (gdn t p) ∧ Below w.heap.size w w' := by
 obtain ⟨vn1, vd1, rfl, hrn, hrd⟩ := h
 have hX := shg_W hn hp
 have HSh := hid (fun (W : World) (hW : Below w.heap.size w W) => Shl_any vn1 t.2.1 p W (hrn.below hW) (lt_big hn (by omega)) (by omega))
 have HDv := hid (fun (W : World) (v1 : Value) (h1 : Rep W32 W v1 (t.2.1 * 2 ^ p)) (hW : Below w.heap.size w W) => Div_any v1 vd1 (t.2.1 * 2 ^ p) t.2.2 W h1 (hrd.below hW) (lt_9 hX (by omega)) (lt_9 hd (by omega)) h0 (ht.below hW))
 have hq : t.2.1 * 2 ^ p / t.2.2 < W32 ^ (100000 + 31251) := Nat.lt_of_le_of_lt (Nat.div_le_self _ _) hX
 have HOf := hid (fun (W : World) => FromUint_any 1 W (by decide))
 have HAd := hid (fun (W : World) (v1 v2 : Value) (h1 : Rep W32 W v1 (t.2.1 * 2 ^ p / t.2.2)) (h2 : Rep W32 W v2 1) => Add_any v1 v2 (t.2.1 * 2 ^ p / t.2.2) 1 W h1 h2 (lt_big hq (by omega)) (lt_big (a := 1) (by decide) (by omega)))
 have HOn := hid (fun (m : Nat) (hm : m ≤ t.2.1 * 2 ^ p / t.2.2 + 1) (W : World) (v1 : Value) (h1 : Rep W32 W v1 m) (hT : TabOk W) => fopen (t := frac t.1 m (2 ^ p)) (onGrid_any t.1 v1 m p W h1 (Nat.lt_of_le_of_lt hm (lt_1m (succ_W hq) (by omega))) hp hT))
 have hbn : botn (t.1, t.2.1 * 2 ^ p, t.2.2) = if t.1 = true ∧ t.2.1 * 2 ^ p % t.2.2 ≠ 0 then t.2.1 * 2 ^ p / t.2.2 + 1 else t.2.1 * 2 ^ p / t.2.2 := rfl
 show Calls _ _ _ _ fun e w' => ∃ v', e = .returned v' ∧ FNorm w' v' (frac t.1 (botn (t.1, t.2.1 * 2 ^ p, t.2.2)) (2 ^ p)) ∧ Below w.heap.size w w'
 obtain ⟨b, hb⟩ : ∃ b, b = botn (t.1, t.2.1 * 2 ^ p, t.2.2) := ⟨_, rfl⟩
 rw [← hb] at hbn ⊢
 clear hb hX hq hn hd h0 hp
 obtain ⟨X, hX⟩ : ∃ b, b = t.2.1 * 2 ^ p := ⟨_, rfl⟩
 rw [← hX] at HSh HDv HAd HOn hbn
 obtain ⟨r, hr⟩ : ∃ r, r = X % t.2.2 := ⟨_, rfl⟩
 obtain ⟨q, hqq⟩ : ∃ r, r = X / t.2.2 := ⟨_, rfl⟩
 rw [← hr, ← hqq] at HDv hbn
 rw [← hqq] at HAd HOn
 clear hr hqq hX
 have HT := hid ht
 clear ht
 obtain ⟨p1, k1, c1, rfl, _⟩ := hrn
 obtain ⟨p2, k2, c2, rfl, _⟩ := hrd
 obtain ⟨s1, hs1⟩ : ∃ s, s = t.1 := ⟨_, rfl⟩
 rw [← hs1] at HOn hbn ⊢
 clear hs1
 have HBN := hid hbn
 clear hbn
 have hal := below_alloc2 w (.cells #[.bool s1, .slice p1 k1 c1, .slice p2 k2 c2] 55) (.cells #[.bool false, .slice none 0 0, .slice none 0 0] 55)
 have hV := (Var3.alloc w (x := .bool s1) (y := .slice p1 k1 c1) (z := .slice p2 k2 c2) 55 trivial trivial trivial).below ((Below.refl _ _).alloc (Nat.le_refl _) (.cells #[.bool false, .slice none 0 0, .slice none 0 0] 55))
 have hV2 := Var3.alloc2 w (.cells #[.bool s1, .slice p1 k1 c1, .slice p2 k2 c2] 55) (x := .bool false) (y := .slice none 0 0) (z := .slice none 0 0) 55 trivial trivial trivial
 go_enter Tryz.func183, Tryz.ntmps183
 go_upto_region 1 with fail
 generalize (w.alloc (.cells #[.bool s1, .slice p1 k1 c1, .slice p2 k2 c2] 55)).alloc (.cells #[.bool false, .slice none 0 0, .slice none 0 0] 55) = W0 at *
 have HB := hid hal
 have HV := hid (And.intro hV hV2)
 have HS : Hid (∀ w', Below W0.heap.size W0 w' → (w'.cell? ⟨w.heap.size, 0, none⟩ = some (.bool s1) ∧ w'.cell? ⟨w.heap.size, 1, none⟩ = some (.slice p1 k1 c1) ∧ w'.cell? ⟨w.heap.size, 2, none⟩ = some (.slice p2 k2 c2) ∧ Hid (Below W0.heap.size W0 w'))) := hid fun w' hb => ⟨(HV.out.1.below hb).cells.1, (HV.out.1.below hb).cells.2.1, (HV.out.1.below hb).cells.2.2.1, hid hb⟩
 clear hal hV hV2
 go_region_held3 (fun w' => w'.cell? ⟨w.heap.size, 0, none⟩ = some (.bool s1) ∧ w'.cell? ⟨w.heap.size, 1, none⟩ = some (.slice p1 k1 c1) ∧ w'.cell? ⟨w.heap.size, 2, none⟩ = some (.slice p2 k2 c2) ∧ Hid (Below W0.heap.size W0 w'))
  (first | exact HS.out _ (Below.refl _ _).drew | (exact HS.out _ (by assumption)))
  (first
   | (go_at_call 214; refine (HSh.out _ (HB.out.trans ((held3' (N := W0.heap.size) (W0 := W0) (by assumption)).mono HB.out.size))).mono ?_; rintro e wb ⟨v6, rfl, hRb, hBb⟩; have hKb := held_any (by first | assumption | exact (Below.refl _ _).drew) hBb)
   | (go_at_call 202; refine (HDv.out _ _ hRb (HB.out.trans ((held3' (N := W0.heap.size) (W0 := W0) (by assumption)).mono HB.out.size))).mono ?_; rintro e wq ⟨vq, vr, rfl, hRq, hRr, hBq⟩; have hKq := held_any (by first | assumption | exact (Below.refl _ _).drew) hBq))
 rename_i hHeld
 clear hHeld
 have HV3 := hid (And.intro (HV.out.1.below hKq) (HV.out.2.below hKq))
 have HB3 := hid (HB.out.trans (hKq.mono HB.out.size))
 have HRq := hid hRq
 have HIz := hid (IsZero_any vr r wq hRr)
 clear HS HV HB hKq hKb hRb hBb hBq hRr hRq HDv HSh
 obtain ⟨x0, x1, x2, _⟩ := HV3.out.1.cells
 have hone : ∀ (m : Nat) (wz : World) (vz : Value), b = m → m ≤ q + 1 → Rep W32 wz vz m → Below wq.heap.size wq wz → True := fun _ _ _ _ _ _ _ => trivial
 clear hone
 cases s1 with
 | false =>
  have hbe : b = q := HBN.out.trans (if_neg fun h => absurd h.1 (by decide))
  have HM := hid (HOn.out b (by omega))
  subst hbe
  clear HBN HOn HIz
  go_wp2_with fail
  refine (HM.out _ _ HRq.out (HT.out.below HB3.out)).mono ?_
  rintro e wf ⟨sg, pa, ka, ca, pb, kb, cb, rfl, HF, hBf⟩
  have HV4 := hid (And.intro (HV3.out.2.below hBf) (HB3.out.trans (hBf.mono HB3.out.size)))
  clear x0 x1 x2 hBf
  obtain ⟨x0, x1, x2, y0, y1, y2⟩ := HV4.out.1.cells
  go_wp2_with fail
  exact FracDown_ret rfl (HV4.out.1.store trivial trivial trivial) ⟨_, rfl, HF.out.store3 HV4.out.1 _ _ _, below_set3 HV4.out.2 (Nat.le_succ _)⟩
 | true =>
  by_cases hr0 : r = 0
  ·have hbe : b = q := HBN.out.trans (if_neg fun h => h.2 hr0)
   have HM := hid (HOn.out b (by omega))
   rw [decide_eq_true hr0] at HIz
   subst hbe
   clear HBN HOn hr0
   go_wp2_with fail
   refine HIz.out.mono ?_
   rintro e w' ⟨rfl, rfl⟩
   go_wp2_with fail
   refine (HM.out _ _ HRq.out (HT.out.below HB3.out)).mono ?_
   rintro e wf ⟨sg, pa, ka, ca, pb, kb, cb, rfl, HF, hBf⟩
   have HV4 := hid (And.intro (HV3.out.2.below hBf) (HB3.out.trans (hBf.mono HB3.out.size)))
   clear x0 x1 x2 hBf
   obtain ⟨x0, x1, x2, y0, y1, y2⟩ := HV4.out.1.cells
   go_wp2_with fail
   exact FracDown_ret rfl (HV4.out.1.store trivial trivial trivial) ⟨_, rfl, HF.out.store3 HV4.out.1 _ _ _, below_set3 HV4.out.2 (Nat.le_succ _)⟩
  ·have hbe : b = q + 1 := HBN.out.trans (if_pos ⟨rfl, hr0⟩)
   have HM := hid (HOn.out b (by omega))
   rw [decide_eq_false hr0] at HIz
   subst hbe
   clear HBN HOn hr0
   go_wp2_with fail
   refine HIz.out.mono ?_
   rintro e w' ⟨rfl, rfl⟩
   go_wp2_with fail
   refine (HOf.out _).mono ?_
   rintro e wo ⟨v1, rfl, hR1, hB1⟩
   have hRqo := HRq.out.below hB1
   clear x0 x1 x2
   go_wp2_with fail
   refine (HAd.out _ _ _ hRqo hR1).mono ?_
   rintro e wp ⟨v2, rfl, hR2, hB2⟩
   have hst := held_any hB1 hB2
   replace HV3 := hid (And.intro (HV3.out.1.below hst) (HV3.out.2.below hst))
   replace HB3 := hid (HB3.out.trans (hst.mono HB3.out.size))
   have HR2 := hid hR2
   clear hst hB1 hB2 hR1 hR2 hRqo HRq
   obtain ⟨x0, x1, x2, _⟩ := HV3.out.1.cells
   go_wp2_with fail
   refine (HM.out _ _ HR2.out (HT.out.below HB3.out)).mono ?_
   rintro e wf ⟨sg, pa, ka, ca, pb, kb, cb, rfl, HF, hBf⟩
   have HV4 := hid (And.intro (HV3.out.2.below hBf) (HB3.out.trans (hBf.mono HB3.out.size)))
   clear x0 x1 x2 hBf
   obtain ⟨x0, x1, x2, y0, y1, y2⟩ := HV4.out.1.cells
   go_wp2_with fail
   exact FracDown_ret rfl (HV4.out.1.store trivial trivial trivial) ⟨_, rfl, HF.out.store3 HV4.out.1 _ _ _, below_set3 HV4.out.2 (Nat.le_succ _)⟩
theorem FracUp_ret {W : World} {B : Nat} {x y z : Value} {tm : Array Value} {R : Ending → World → Prop} (h2 : tm[4]?.getD undef = .pointer (some ⟨B, 0, none⟩)) (hV : Var3 W B x y z) (hR : R (.returned (.agg #[x, y, z])) W) :
  bodyPost Tryz.prog Tryz.f185 R .ret { tmps := tm, defers := [] } W := by
 obtain ⟨c0, c1, c2, _, _, _⟩ := hV.cells
 exact bodyPost_ret (v := .agg #[x, y, z]) (by simp [results, Tryz.results185, go_sem, h2, c0, c1, c2]) rfl hR
theorem FracUp_any (v : Value) (t : Bool × Nat × Nat) (p : Nat) (w : World) (h : FNorm w v t) (hn : t.2.1 < W32 ^ 100000) (hd : t.2.2 < W32 ^ 100000) (h0 : 0 < t.2.2) (hp : p ≤ 1000000) (ht : TabOk w) :
  Calls Tryz.prog 185 #[v, .int .i64 (p : Int)] w fun e w' => ∃ v', e = .returned v' ∧ FNorm w' v' (gup t p) ∧ Below w.heap.size w w' := by
 have HO1 := hid (fun (W : World) (hW : Below w.heap.size w W) => fopen (t := fneg t) (Neg_any v t.1 t.2.1 t.2.2 W (FNorm.below h hW)))
 have HBo := hid (fun (W : World) (v : Value) (hq : FNorm W v (fneg t)) (hW : Below w.heap.size w W) => fopen (t := gdn (fneg t) p) (FracDown_any v (fneg t) p W hq hn hd h0 hp (ht.below hW)))
 have HO2 := hid (fun (W : World) (v : Value) (hq : FNorm W v (gdn (fneg t) p)) => fopen (t := gup t p) (Neg_any v _ _ _ W hq))
 clear hn hd hp h0 ht
 obtain ⟨vn1, vd1, rfl, ⟨p1, k1, c1, rfl, _⟩, ⟨p2, k2, c2, rfl, _⟩⟩ := h
 obtain ⟨s1, hs1⟩ : ∃ s, s = t.1 := ⟨_, rfl⟩
 rw [← hs1] at HO1 ⊢
 clear hs1
 obtain ⟨t1, h1⟩ : ∃ s, s = fneg t := ⟨_, rfl⟩
 rw [← h1] at HO1 HBo HO2
 obtain ⟨t2, h2⟩ : ∃ s, s = gdn t1 p := ⟨_, rfl⟩
 rw [← h2] at HBo HO2
 obtain ⟨t3, h3⟩ : ∃ s, s = gup t p := ⟨_, rfl⟩
 rw [← h3] at HO2 ⊢
 clear h1 h2 h3
 have hal := below_alloc2 w (.cells #[.bool s1, .slice p1 k1 c1, .slice p2 k2 c2] 55) (.cells #[.bool false, .slice none 0 0, .slice none 0 0] 55)
 have hV2 := Var3.alloc2 w (.cells #[.bool s1, .slice p1 k1 c1, .slice p2 k2 c2] 55) (x := .bool false) (y := .slice none 0 0) (z := .slice none 0 0) 55 trivial trivial trivial
 have hV := (Var3.alloc w (x := .bool s1) (y := .slice p1 k1 c1) (z := .slice p2 k2 c2) 55 trivial trivial trivial).below ((Below.refl _ _).alloc (Nat.le_refl _) (.cells #[.bool false, .slice none 0 0, .slice none 0 0] 55))
 go_enter Tryz.func185, Tryz.ntmps185
 go_upto_region 1 with fail
 generalize (w.alloc (.cells #[.bool s1, .slice p1 k1 c1, .slice p2 k2 c2] 55)).alloc (.cells #[.bool false, .slice none 0 0, .slice none 0 0] 55) = W0 at *
 have HB := hid hal
 have HV := hid hV2
 obtain ⟨a0, a1, a2, _⟩ := hV.cells
 clear hal hV hV2
 go_wp2_with fail
 refine (HO1.out _ HB.out).mono ?_
 rintro e w1 ⟨sa, pa, ka, ca, pb, kb, cb, rfl, hQ, hst⟩
 clear a0 a1 a2
 replace HV := hid (HV.out.below hst)
 replace HB := hid (HB.out.trans (hst.mono HB.out.size))
 clear hst
 go_wp2_with fail
 refine (HBo.out _ _ hQ.out HB.out).mono ?_
 rintro e w2 ⟨sc, pc, kc, cc, pd, kd, cd, rfl, hQ2, hst⟩
 replace HV := hid (HV.out.below hst)
 replace HB := hid (HB.out.trans (hst.mono HB.out.size))
 clear hst
 go_wp2_with fail
 refine (HO2.out _ _ hQ2.out).mono ?_
 rintro e w3 ⟨se, pe, ke, ce, pf, kf, cf, rfl, HF, hst⟩
 replace HV := hid (HV.out.below hst)
 replace HB := hid (HB.out.trans (hst.mono HB.out.size))
 clear hst
 obtain ⟨x0, x1, x2, y0, y1, y2⟩ := HV.out.cells
 go_wp2_with fail
 exact FracUp_ret rfl (HV.out.store trivial trivial trivial) ⟨_, rfl, HF.out.store3 HV.out _ _ _, below_set3 HB.out (Nat.le_succ _)⟩
end Go.Proofs.YtheojajaefjecaaGreatDoor
namespace Go.Proofs.YtheojajaefjecaaGreatDoor
open Go.RowKit Dg
def PCell (w : World) (B : Nat) (p : Int) : Prop := w.cell? ⟨B, 0, none⟩ = some (.int .i64 p) ∧ B < w.heap.size
theorem PCell.below {w w' : World} {B : Nat} {p : Int} (h : PCell w B p) (hb : Below w.heap.size w w') : PCell w' B p :=
 ⟨(bcellN hb _ _ h.2).trans h.1, Nat.lt_of_lt_of_le h.2 hb.size⟩
theorem PCell.new (w : World) (p : Int) (t : Nat) : PCell (w.alloc (.cells #[.int .i64 p] t)) w.heap.size p :=
 ⟨by simp only [World.cell?, heap_alloc_new]; rfl, by rw [World.size_alloc]; omega⟩
end Go.Proofs.YtheojajaefjecaaGreatDoor
namespace Go.Proofs.YtheojajaefjecaaGreatDoor
open Go.RowKit Dg
end Go.Proofs.YtheojajaefjecaaGreatDoor
namespace Go.Proofs.YtheojajaefjecaaGreatDoor
open Go.RowKit Dg
end Go.Proofs.YtheojajaefjecaaGreatDoor
namespace Go.Proofs.YtheojajaefjecaaGreatDoor
open Go.RowKit Dg
end Go.Proofs.YtheojajaefjecaaGreatDoor
