/- Roots on a grid, in the program. Roots on a grid of fractions, in the program. -/
import Derived.Test.YtheojajaefjecaaGreatDoorGrtM
import Derived.Test.YtheojajaefjecaaGreatDoorRootH
namespace Go.Proofs.YtheojajaefjecaaGreatDoor
open Go.RowKit Dg Rt
theorem np_bd {n p : Nat} (h8 : n ≤ 8) (hp : p ≤ 256) : n * p ≤ 2048 := Nat.mul_le_mul h8 hp
theorem gsc_W {t : Bool × Nat × Nat} {n p : Nat} (hn : t.2.1 < W32 ^ 64) (h8 : n ≤ 8) (hp : p ≤ 256) : t.2.1 * 2 ^ (n * p) < W32 ^ 130 := by
 have h1 : 2 ^ (n * p) < W32 ^ 66 := two_Wk (by have := np_bd h8 hp; omega)
 have h2 : t.2.1 * 2 ^ (n * p) < W32 ^ 64 * W32 ^ 66 := by
  have h3 := Nat.mul_le_mul_right (2 ^ (n * p)) (Nat.le_of_lt hn)
  have h4 := Nat.mul_lt_mul_of_pos_left h1 (Nat.pow_pos (n := 64) W32_pos)
  exact Nat.lt_of_le_of_lt h3 h4
 rwa [← Nat.pow_add] at h2
theorem gridRoot_ret {W : World} {a b : Value} {tm : Array Value} {R : Ending → World → Prop} (h2 : tm[6]?.getD undef = a) (h3 : tm[7]?.getD undef = b)
  (hR : R (.returned (.tuple #[a, b])) W) : bodyPost Tryz.prog Tryz.f217 R .ret { tmps := tm, defers := [] } W :=
 bodyPost_ret (v := .tuple #[a, b]) (by simp [results, Tryz.results217, go_sem, h2, h3]) rfl hR
set_option maxHeartbeats 8000000 in
set_option maxRecDepth 100000 in
theorem gridRoot_any (v : Value) (t : Bool × Nat × Nat) (n p : Nat) (w : World) (h : FNorm w v t) (hn : t.2.1 < W32 ^ 64) (hd : t.2.2 < W32 ^ 64) (h0 : 0 < t.2.2) (h2 : 2 ≤ n) (h8 : n ≤ 8) (hp : p ≤ 256) (ht : TabOk w) :
  Calls Tryz.prog 217 #[v, .int .i64 (n : Int), .int .i64 (p : Int)] w fun e w' => ∃ p' k' c', e = .returned (.tuple #[.slice p' k' c', .bool (gex t n p)]) ∧ Rep W32 w' (.slice p' k' c') (gsz t n p) ∧ Below w.heap.size w w' := by
 obtain ⟨vn1, vd1, rfl, hrn, hrd⟩ := h
 have hX := gsc_W hn h8 hp
 have hwm : IntKind.i64.wrap ((n : Int) * (p : Int)) = ((n * p : Nat) : Int) := by rw [← Int.natCast_mul, IntKind.wrap_i64]; have := np_bd h8 hp; omega
 have HSh := hid (fun (W : World) (hW : Below w.heap.size w W) => Shl_any vn1 t.2.1 (n * p) W (hrn.below hW) (lt_big hn (by omega)) (by have := np_bd h8 hp; omega))
 have HDv := hid (fun (W : World) (v1 : Value) (h1 : Rep W32 W v1 (t.2.1 * 2 ^ (n * p))) (hW : Below w.heap.size w W) => Div_any v1 vd1 (t.2.1 * 2 ^ (n * p)) t.2.2 W h1 (hrd.below hW) (lt_9 hX (by omega)) (lt_9 hd (by omega)) h0 (ht.below hW))
 have hsc : gsc t n p < W32 ^ 130 := Nat.lt_of_le_of_lt (gsc_le t n p) hX
 have hsz : gsz t n p < W32 ^ 130 := Nat.lt_of_le_of_lt (gsz_le t (by omega) p) hsc
 have HRt := hid (fun (W : World) (v1 : Value) (h1 : Rep W32 W v1 (gsc t n p)) (hW : Below w.heap.size w W) => Root_any v1 (gsc t n p) n 130 W h1 hsc (by omega) h2 h8 (ht.below hW))
 have HPw := hid (fun (W : World) (v1 : Value) (h1 : Rep W32 W v1 (gsz t n p)) => Pow_any v1 (gsz t n p) n 130 W h1 hsz (by omega) (by omega))
 have HCm := hid (fun (W : World) (v1 v2 : Value) (h1 : Rep W32 W v1 (gsz t n p ^ n)) (h2 : Rep W32 W v2 (gsc t n p)) => Compare_any v1 v2 (gsz t n p ^ n) (gsc t n p) W h1 h2 (lt_big (pow_Wb hsz (by omega) (by omega)) (by omega)) (lt_big hsc (by omega)))
 rw [show nroot (gsc t n p) n = gsz t n p from rfl] at HRt
 rw [show t.2.1 * 2 ^ (n * p) / t.2.2 = gsc t n p from rfl] at HDv
 have HG : Hid (gex t n p = (decide (t.2.1 * 2 ^ (n * p) % t.2.2 = 0) && decide (gsz t n p ^ n = gsc t n p))) := hid rfl
 clear hX hn hd h0 h2 h8 hp hsc hsz
 obtain ⟨ge, hge⟩ : ∃ b, b = gex t n p := ⟨_, rfl⟩
 rw [← hge] at HG ⊢
 clear hge
 obtain ⟨X, hX⟩ : ∃ b, b = t.2.1 * 2 ^ (n * p) := ⟨_, rfl⟩
 rw [← hX] at HSh HDv HG
 obtain ⟨r, hr⟩ : ∃ r, r = X % t.2.2 := ⟨_, rfl⟩
 rw [← hr] at HDv HG
 obtain ⟨q, hqq⟩ : ∃ r, r = gsc t n p := ⟨_, rfl⟩
 rw [← hqq] at HDv HG HRt HCm
 obtain ⟨z, hz⟩ : ∃ r, r = gsz t n p := ⟨_, rfl⟩
 rw [← hz] at HG HRt HPw HCm ⊢
 obtain ⟨zn, hzn⟩ : ∃ r, r = z ^ n := ⟨_, rfl⟩
 rw [← hzn] at HG HPw HCm
 clear hr hqq hX hz hzn
 obtain ⟨p1, k1, c1, rfl, _⟩ := hrn
 obtain ⟨p2, k2, c2, rfl, _⟩ := hrd
 obtain ⟨s1, hs1⟩ : ∃ s, s = t.1 := ⟨_, rfl⟩
 rw [← hs1]
 clear hs1
 have hal := (Below.refl w.heap.size w).alloc (Nat.le_refl _) (.cells #[.bool s1, .slice p1 k1 c1, .slice p2 k2 c2] 55)
 have hV := Var3.alloc w (x := .bool s1) (y := .slice p1 k1 c1) (z := .slice p2 k2 c2) 55 trivial trivial trivial
 go_enter Tryz.func217, Tryz.ntmps217
 go_upto_region 1 with fail
 generalize w.alloc (.cells #[.bool s1, .slice p1 k1 c1, .slice p2 k2 c2] 55) = W0 at *
 have HB := hid hal
 have HS : Hid (∀ w', Below W0.heap.size W0 w' → (w'.cell? ⟨w.heap.size, 0, none⟩ = some (.bool s1) ∧ w'.cell? ⟨w.heap.size, 1, none⟩ = some (.slice p1 k1 c1) ∧ w'.cell? ⟨w.heap.size, 2, none⟩ = some (.slice p2 k2 c2) ∧ Hid (Below W0.heap.size W0 w'))) := hid fun w' hb => ⟨(hV.below hb).cells.1, (hV.below hb).cells.2.1, (hV.below hb).cells.2.2.1, hid hb⟩
 clear hal hV
 go_region_held3 (fun w' => w'.cell? ⟨w.heap.size, 0, none⟩ = some (.bool s1) ∧ w'.cell? ⟨w.heap.size, 1, none⟩ = some (.slice p1 k1 c1) ∧ w'.cell? ⟨w.heap.size, 2, none⟩ = some (.slice p2 k2 c2) ∧ Hid (Below W0.heap.size W0 w'))
  (first | exact HS.out _ (Below.refl _ _).drew | (exact HS.out _ (by assumption)))
  (first
   | (go_at_call 214; refine (HSh.out _ (HB.out.trans ((held3' (N := W0.heap.size) (W0 := W0) (by assumption)).mono HB.out.size))).mono ?_; rintro e wb ⟨v6, rfl, hRb, hBb⟩; have hKb := held_any (by first | assumption | exact (Below.refl _ _).drew) hBb)
   | (go_at_call 202; refine (HDv.out _ _ hRb (HB.out.trans ((held3' (N := W0.heap.size) (W0 := W0) (by assumption)).mono HB.out.size))).mono ?_; rintro e wq ⟨vq, vr, rfl, hRq, hRr, hBq⟩; have hKq := held_any (by first | assumption | exact (Below.refl _ _).drew) hBq))
 rename_i hHeld
 clear hHeld
 have HB3 := hid (HB.out.trans (hKq.mono HB.out.size))
 have HRq := hid (And.intro hRq hRr)
 clear HS HB hKq hKb hRb hBb hBq hRr hRq HDv HSh hwm
 go_wp2_with fail
 refine (HRt.out _ _ HRq.out.1 HB3.out).mono ?_
 rintro e w1 ⟨v3, rfl, hR3, hB1⟩
 obtain ⟨p3, k3, c3, rfl, hx⟩ := id hR3
 clear hx
 replace HRq := hid (And.intro (HRq.out.1.below hB1) (And.intro (HRq.out.2.below hB1) hR3))
 replace HB3 := hid (HB3.out.trans (hB1.mono HB3.out.size))
 have HIz := hid (IsZero_any vr r w1 HRq.out.2.1)
 clear HRt hR3 hB1
 go_wp2_with fail
 refine HIz.out.mono ?_
 rintro e w' ⟨rfl, rfl⟩
 clear HIz
 by_cases hr0 : r = 0
 ·rw [decide_eq_true hr0] at HG ⊢
  rw [Bool.true_and] at HG
  clear hr0
  go_wp2_with fail
  refine (HPw.out _ _ HRq.out.2.2).mono ?_
  rintro e w2 ⟨v4, rfl, hR4, hB2⟩
  replace HRq := hid (And.intro (HRq.out.1.below hB2) (And.intro hR4 (HRq.out.2.2.below hB2)))
  replace HB3 := hid (HB3.out.trans (hB2.mono HB3.out.size))
  clear hR4 hB2 HPw
  go_wp2_with fail
  refine (HCm.out _ _ _ HRq.out.2.1 HRq.out.1).mono ?_
  rintro e w3 ⟨rfl, q9, rfl⟩
  have hcz : (cmp3 zn q == 0) = ge := by
   rw [HG.out]
   by_cases h : zn = q
   ·rw [decide_eq_true h, h, cmp3_eq]; rfl
   ·rw [decide_eq_false h]
    exact beq_eq_false_iff_ne.2 fun h2 => h (cmp3_zero h2)
  obtain ⟨cv, hcv⟩ : ∃ c, c = cmp3 zn q := ⟨_, rfl⟩
  rw [← hcv] at hcz ⊢
  clear hcv HG HCm
  go_wp2_with fail
  exact gridRoot_ret rfl rfl ⟨_, _, _, rfl, HRq.out.2.2.drewN q9, below_drewN HB3.out q9⟩
 ·rw [decide_eq_false hr0] at HG ⊢
  rw [Bool.false_and] at HG
  have hge := HG.out
  subst hge
  clear hr0 HG
  go_wp2_with fail
  exact gridRoot_ret rfl rfl ⟨_, _, _, rfl, HRq.out.2.2, HB3.out⟩
end Go.Proofs.YtheojajaefjecaaGreatDoor

set_option maxHeartbeats 8000000
set_option maxRecDepth 100000
namespace Go.Proofs.YtheojajaefjecaaGreatDoor
open Go.RowKit Dg Rt
theorem FracRootDown_ret {W : World} {B : Nat} {x y z : Value} {tm : Array Value} {R : Ending → World → Prop} (h2 : tm[6]?.getD undef = .pointer (some ⟨B, 0, none⟩)) (hV : Var3 W B x y z) (hR : R (.returned (.agg #[x, y, z])) W) :
  bodyPost Tryz.prog Tryz.f190 R .ret { tmps := tm, defers := [] } W := by
 obtain ⟨c0, c1, c2, _, _, _⟩ := hV.cells
 exact bodyPost_ret (v := .agg #[x, y, z]) (by simp [results, Tryz.results190, go_sem, h2, c0, c1, c2]) rfl hR
theorem FracRootDown_any (v : Value) (t : Bool × Nat × Nat) (n p : Nat) (w : World) (h : FNorm w v t) (hn : t.2.1 < W32 ^ 64) (hd : t.2.2 < W32 ^ 64) (h0 : 0 < t.2.2) (h2 : 2 ≤ n) (h8 : n ≤ 8) (hp : p ≤ 256) (ht : TabOk w) :
  Calls Tryz.prog 190 #[v, .int .i64 (n : Int), .int .i64 (p : Int)] w fun e w' => ∃ v', e = .returned v' ∧ FNorm w' v' (grdn t n p) ∧ Below w.heap.size w w' := by
 have HGr := hid (fun (W : World) (hW : Below w.heap.size w W) => gridRoot_any v t n p W (FNorm.below h hW) hn hd h0 h2 h8 hp (ht.below hW))
 have hsz : gsz t n p < W32 ^ 130 := Nat.lt_of_le_of_lt (gsz_le t (by omega) p) (Nat.lt_of_le_of_lt (gsc_le t n p) (gsc_W hn h8 hp))
 have HOf := hid (fun (W : World) => FromUint_any 1 W (by decide))
 have HAd := hid (fun (W : World) (v1 v2 : Value) (h1 : Rep W32 W v1 (gsz t n p)) (h2 : Rep W32 W v2 1) => Add_any v1 v2 (gsz t n p) 1 W h1 h2 (lt_big hsz (by omega)) (lt_big (a := 1) (by decide) (by omega)))
 have HOn := hid (fun (m : Nat) (hm : m ≤ gsz t n p + 1) (W : World) (v1 : Value) (h1 : Rep W32 W v1 m) (hT : TabOk W) => fopen (t := frac t.1 m (2 ^ p)) (onGrid_any t.1 v1 m p W h1 (Nat.lt_of_le_of_lt hm (lt_1m (succ_W hsz) (by omega))) (by omega) hT))
 have hbn : grdn t n p = frac t.1 (gsz t n p + if (t.1 && !gex t n p) = true then 1 else 0) (2 ^ p) := rfl
 obtain ⟨gr, hgr⟩ : ∃ b, b = grdn t n p := ⟨_, rfl⟩
 rw [← hgr] at hbn ⊢
 clear hgr hsz hn hd h0 h2 h8 hp
 obtain ⟨ge, hge⟩ : ∃ b, b = gex t n p := ⟨_, rfl⟩
 rw [← hge] at HGr hbn
 obtain ⟨z, hz⟩ : ∃ b, b = gsz t n p := ⟨_, rfl⟩
 rw [← hz] at HGr HAd HOn hbn
 clear hge hz
 have HT := hid ht
 clear ht
 obtain ⟨vn1, vd1, rfl, ⟨p1, k1, c1, rfl, _⟩, ⟨p2, k2, c2, rfl, _⟩⟩ := h
 obtain ⟨s1, hs1⟩ : ∃ s, s = t.1 := ⟨_, rfl⟩
 rw [← hs1] at HOn hbn HGr ⊢
 clear hs1
 have HBN := hid hbn
 clear hbn
 have hal := below_alloc2 w (.cells #[.bool s1, .slice p1 k1 c1, .slice p2 k2 c2] 55) (.cells #[.bool false, .slice none 0 0, .slice none 0 0] 55)
 have hV := (Var3.alloc w (x := .bool s1) (y := .slice p1 k1 c1) (z := .slice p2 k2 c2) 55 trivial trivial trivial).below ((Below.refl _ _).alloc (Nat.le_refl _) (.cells #[.bool false, .slice none 0 0, .slice none 0 0] 55))
 have hV2 := Var3.alloc2 w (.cells #[.bool s1, .slice p1 k1 c1, .slice p2 k2 c2] 55) (x := .bool false) (y := .slice none 0 0) (z := .slice none 0 0) 55 trivial trivial trivial
 go_enter Tryz.func190, Tryz.ntmps190
 go_upto_region 1 with fail
 generalize (w.alloc (.cells #[.bool s1, .slice p1 k1 c1, .slice p2 k2 c2] 55)).alloc (.cells #[.bool false, .slice none 0 0, .slice none 0 0] 55) = W0 at *
 have HB := hid hal
 have HV := hid (And.intro hV hV2)
 obtain ⟨x0, x1, x2, _⟩ := id hV.cells
 clear hal hV hV2
 go_wp2_with fail
 refine (HGr.out _ HB.out).mono ?_
 rintro e wq ⟨pq, kq, cq, rfl, hRq, hBq⟩
 have HV3 := hid (And.intro (HV.out.1.below hBq) (HV.out.2.below hBq))
 have HB3 := hid (HB.out.trans (hBq.mono HB.out.size))
 have HRq := hid hRq
 clear HV HB hBq hRq HGr x0 x1 x2
 obtain ⟨x0, x1, x2, _⟩ := HV3.out.1.cells
 cases s1 <;> cases ge
 ·have hbe : gr = frac false z (2 ^ p) := HBN.out
  have HM := hid (HOn.out z (by omega))
  rw [← hbe] at HM
  clear HBN HOn hbe
  go_wp2_with fail
  refine (HM.out _ _ HRq.out (HT.out.below HB3.out)).mono ?_
  rintro e wf ⟨sg, pa, ka, ca, pb, kb, cb, rfl, HF, hBf⟩
  have HV4 := hid (And.intro (HV3.out.2.below hBf) (HB3.out.trans (hBf.mono HB3.out.size)))
  clear x0 x1 x2 hBf
  obtain ⟨x0, x1, x2, y0, y1, y2⟩ := HV4.out.1.cells
  go_wp2_with fail
  exact FracRootDown_ret rfl (HV4.out.1.store trivial trivial trivial) ⟨_, rfl, HF.out.store3 HV4.out.1 _ _ _, below_set3 HV4.out.2 (Nat.le_succ _)⟩
 ·have hbe : gr = frac false z (2 ^ p) := HBN.out
  have HM := hid (HOn.out z (by omega))
  rw [← hbe] at HM
  clear HBN HOn hbe
  go_wp2_with fail
  refine (HM.out _ _ HRq.out (HT.out.below HB3.out)).mono ?_
  rintro e wf ⟨sg, pa, ka, ca, pb, kb, cb, rfl, HF, hBf⟩
  have HV4 := hid (And.intro (HV3.out.2.below hBf) (HB3.out.trans (hBf.mono HB3.out.size)))
  clear x0 x1 x2 hBf
  obtain ⟨x0, x1, x2, y0, y1, y2⟩ := HV4.out.1.cells
  go_wp2_with fail
  exact FracRootDown_ret rfl (HV4.out.1.store trivial trivial trivial) ⟨_, rfl, HF.out.store3 HV4.out.1 _ _ _, below_set3 HV4.out.2 (Nat.le_succ _)⟩
 ·have hbe : gr = frac true (z + 1) (2 ^ p) := HBN.out
  have HM := hid (HOn.out (z + 1) (by omega))
  rw [← hbe] at HM
  clear HBN HOn hbe
  go_wp2_with fail
  refine (HOf.out _).mono ?_
  rintro e wo ⟨v1, rfl, hR1, hB1⟩
  have hRqo := HRq.out.below hB1
  clear x0 x1 x2
  go_wp2_with fail
  refine (HAd.out _ _ _ hRqo hR1).mono ?_
  rintro e wp ⟨v2, rfl, hR2, hB2⟩
  have hst := held_any hB1 hB2
  replace HV3 := hid (And.intro (HV3.out.1.below hst) (HV3.out.2.below hst))
  replace HB3 := hid (HB3.out.trans (hst.mono HB3.out.size))
  have HR2 := hid hR2
  clear hst hB1 hB2 hR1 hR2 hRqo HRq
  obtain ⟨x0, x1, x2, _⟩ := HV3.out.1.cells
  go_wp2_with fail
  refine (HM.out _ _ HR2.out (HT.out.below HB3.out)).mono ?_
  rintro e wf ⟨sg, pa, ka, ca, pb, kb, cb, rfl, HF, hBf⟩
  have HV4 := hid (And.intro (HV3.out.2.below hBf) (HB3.out.trans (hBf.mono HB3.out.size)))
  clear x0 x1 x2 hBf
  obtain ⟨x0, x1, x2, y0, y1, y2⟩ := HV4.out.1.cells
  go_wp2_with fail
  exact FracRootDown_ret rfl (HV4.out.1.store trivial trivial trivial) ⟨_, rfl, HF.out.store3 HV4.out.1 _ _ _, below_set3 HV4.out.2 (Nat.le_succ _)⟩
 ·have hbe : gr = frac true z (2 ^ p) := HBN.out
  have HM := hid (HOn.out z (by omega))
  rw [← hbe] at HM
  clear HBN HOn hbe
  go_wp2_with fail
  refine (HM.out _ _ HRq.out (HT.out.below HB3.out)).mono ?_
  rintro e wf ⟨sg, pa, ka, ca, pb, kb, cb, rfl, HF, hBf⟩
  have HV4 := hid (And.intro (HV3.out.2.below hBf) (HB3.out.trans (hBf.mono HB3.out.size)))
  clear x0 x1 x2 hBf
  obtain ⟨x0, x1, x2, y0, y1, y2⟩ := HV4.out.1.cells
  go_wp2_with fail
  exact FracRootDown_ret rfl (HV4.out.1.store trivial trivial trivial) ⟨_, rfl, HF.out.store3 HV4.out.1 _ _ _, below_set3 HV4.out.2 (Nat.le_succ _)⟩
theorem FracRootUp_ret {W : World} {B : Nat} {x y z : Value} {tm : Array Value} {R : Ending → World → Prop} (h2 : tm[6]?.getD undef = .pointer (some ⟨B, 0, none⟩)) (hV : Var3 W B x y z) (hR : R (.returned (.agg #[x, y, z])) W) :
  bodyPost Tryz.prog Tryz.f192 R .ret { tmps := tm, defers := [] } W := by
 obtain ⟨c0, c1, c2, _, _, _⟩ := hV.cells
 exact bodyPost_ret (v := .agg #[x, y, z]) (by simp [results, Tryz.results192, go_sem, h2, c0, c1, c2]) rfl hR
theorem FracRootUp_any (v : Value) (t : Bool × Nat × Nat) (n p : Nat) (w : World) (h : FNorm w v t) (hn : t.2.1 < W32 ^ 64) (hd : t.2.2 < W32 ^ 64) (h0 : 0 < t.2.2) (h2 : 2 ≤ n) (h8 : n ≤ 8) (hp : p ≤ 256) (ht : TabOk w) :
  Calls Tryz.prog 192 #[v, .int .i64 (n : Int), .int .i64 (p : Int)] w fun e w' => ∃ v', e = .returned v' ∧ FNorm w' v' (grup t n p) ∧ Below w.heap.size w w' := by
 have HGr := hid (fun (W : World) (hW : Below w.heap.size w W) => gridRoot_any v t n p W (FNorm.below h hW) hn hd h0 h2 h8 hp (ht.below hW))
 have hsz : gsz t n p < W32 ^ 130 := Nat.lt_of_le_of_lt (gsz_le t (by omega) p) (Nat.lt_of_le_of_lt (gsc_le t n p) (gsc_W hn h8 hp))
 have HOf := hid (fun (W : World) => FromUint_any 1 W (by decide))
 have HAd := hid (fun (W : World) (v1 v2 : Value) (h1 : Rep W32 W v1 (gsz t n p)) (h2 : Rep W32 W v2 1) => Add_any v1 v2 (gsz t n p) 1 W h1 h2 (lt_big hsz (by omega)) (lt_big (a := 1) (by decide) (by omega)))
 have HOn := hid (fun (m : Nat) (hm : m ≤ gsz t n p + 1) (W : World) (v1 : Value) (h1 : Rep W32 W v1 m) (hT : TabOk W) => fopen (t := frac t.1 m (2 ^ p)) (onGrid_any t.1 v1 m p W h1 (Nat.lt_of_le_of_lt hm (lt_1m (succ_W hsz) (by omega))) (by omega) hT))
 have hbn : grup t n p = frac t.1 (gsz t n p + if (!t.1 && !gex t n p) = true then 1 else 0) (2 ^ p) := rfl
 obtain ⟨gr, hgr⟩ : ∃ b, b = grup t n p := ⟨_, rfl⟩
 rw [← hgr] at hbn ⊢
 clear hgr hsz hn hd h0 h2 h8 hp
 obtain ⟨ge, hge⟩ : ∃ b, b = gex t n p := ⟨_, rfl⟩
 rw [← hge] at HGr hbn
 obtain ⟨z, hz⟩ : ∃ b, b = gsz t n p := ⟨_, rfl⟩
 rw [← hz] at HGr HAd HOn hbn
 clear hge hz
 have HT := hid ht
 clear ht
 obtain ⟨vn1, vd1, rfl, ⟨p1, k1, c1, rfl, _⟩, ⟨p2, k2, c2, rfl, _⟩⟩ := h
 obtain ⟨s1, hs1⟩ : ∃ s, s = t.1 := ⟨_, rfl⟩
 rw [← hs1] at HOn hbn HGr ⊢
 clear hs1
 have HBN := hid hbn
 clear hbn
 have hal := below_alloc2 w (.cells #[.bool s1, .slice p1 k1 c1, .slice p2 k2 c2] 55) (.cells #[.bool false, .slice none 0 0, .slice none 0 0] 55)
 have hV := (Var3.alloc w (x := .bool s1) (y := .slice p1 k1 c1) (z := .slice p2 k2 c2) 55 trivial trivial trivial).below ((Below.refl _ _).alloc (Nat.le_refl _) (.cells #[.bool false, .slice none 0 0, .slice none 0 0] 55))
 have hV2 := Var3.alloc2 w (.cells #[.bool s1, .slice p1 k1 c1, .slice p2 k2 c2] 55) (x := .bool false) (y := .slice none 0 0) (z := .slice none 0 0) 55 trivial trivial trivial
 go_enter Tryz.func192, Tryz.ntmps192
 go_upto_region 1 with fail
 generalize (w.alloc (.cells #[.bool s1, .slice p1 k1 c1, .slice p2 k2 c2] 55)).alloc (.cells #[.bool false, .slice none 0 0, .slice none 0 0] 55) = W0 at *
 have HB := hid hal
 have HV := hid (And.intro hV hV2)
 obtain ⟨x0, x1, x2, _⟩ := id hV.cells
 clear hal hV hV2
 go_wp2_with fail
 refine (HGr.out _ HB.out).mono ?_
 rintro e wq ⟨pq, kq, cq, rfl, hRq, hBq⟩
 have HV3 := hid (And.intro (HV.out.1.below hBq) (HV.out.2.below hBq))
 have HB3 := hid (HB.out.trans (hBq.mono HB.out.size))
 have HRq := hid hRq
 clear HV HB hBq hRq HGr x0 x1 x2
 obtain ⟨x0, x1, x2, _⟩ := HV3.out.1.cells
 cases s1 <;> cases ge
 ·have hbe : gr = frac false (z + 1) (2 ^ p) := HBN.out
  have HM := hid (HOn.out (z + 1) (by omega))
  rw [← hbe] at HM
  clear HBN HOn hbe
  go_wp2_with fail
  refine (HOf.out _).mono ?_
  rintro e wo ⟨v1, rfl, hR1, hB1⟩
  have hRqo := HRq.out.below hB1
  clear x0 x1 x2
  go_wp2_with fail
  refine (HAd.out _ _ _ hRqo hR1).mono ?_
  rintro e wp ⟨v2, rfl, hR2, hB2⟩
  have hst := held_any hB1 hB2
  replace HV3 := hid (And.intro (HV3.out.1.below hst) (HV3.out.2.below hst))
  replace HB3 := hid (HB3.out.trans (hst.mono HB3.out.size))
  have HR2 := hid hR2
  clear hst hB1 hB2 hR1 hR2 hRqo HRq
  obtain ⟨x0, x1, x2, _⟩ := HV3.out.1.cells
  go_wp2_with fail
  refine (HM.out _ _ HR2.out (HT.out.below HB3.out)).mono ?_
  rintro e wf ⟨sg, pa, ka, ca, pb, kb, cb, rfl, HF, hBf⟩
  have HV4 := hid (And.intro (HV3.out.2.below hBf) (HB3.out.trans (hBf.mono HB3.out.size)))
  clear x0 x1 x2 hBf
  obtain ⟨x0, x1, x2, y0, y1, y2⟩ := HV4.out.1.cells
  go_wp2_with fail
  exact FracRootUp_ret rfl (HV4.out.1.store trivial trivial trivial) ⟨_, rfl, HF.out.store3 HV4.out.1 _ _ _, below_set3 HV4.out.2 (Nat.le_succ _)⟩
 ·have hbe : gr = frac false z (2 ^ p) := HBN.out
  have HM := hid (HOn.out z (by omega))
  rw [← hbe] at HM
  clear HBN HOn hbe
  go_wp2_with fail
  refine (HM.out _ _ HRq.out (HT.out.below HB3.out)).mono ?_
  rintro e wf ⟨sg, pa, ka, ca, pb, kb, cb, rfl, HF, hBf⟩
  have HV4 := hid (And.intro (HV3.out.2.below hBf) (HB3.out.trans (hBf.mono HB3.out.size)))
  clear x0 x1 x2 hBf
  obtain ⟨x0, x1, x2, y0, y1, y2⟩ := HV4.out.1.cells
  go_wp2_with fail
  exact FracRootUp_ret rfl (HV4.out.1.store trivial trivial trivial) ⟨_, rfl, HF.out.store3 HV4.out.1 _ _ _, below_set3 HV4.out.2 (Nat.le_succ _)⟩
 ·have hbe : gr = frac true z (2 ^ p) := HBN.out
  have HM := hid (HOn.out z (by omega))
  rw [← hbe] at HM
  clear HBN HOn hbe
  go_wp2_with fail
  refine (HM.out _ _ HRq.out (HT.out.below HB3.out)).mono ?_
  rintro e wf ⟨sg, pa, ka, ca, pb, kb, cb, rfl, HF, hBf⟩
  have HV4 := hid (And.intro (HV3.out.2.below hBf) (HB3.out.trans (hBf.mono HB3.out.size)))
  clear x0 x1 x2 hBf
  obtain ⟨x0, x1, x2, y0, y1, y2⟩ := HV4.out.1.cells
  go_wp2_with fail
  exact FracRootUp_ret rfl (HV4.out.1.store trivial trivial trivial) ⟨_, rfl, HF.out.store3 HV4.out.1 _ _ _, below_set3 HV4.out.2 (Nat.le_succ _)⟩
 ·have hbe : gr = frac true z (2 ^ p) := HBN.out
  have HM := hid (HOn.out z (by omega))
  rw [← hbe] at HM
  clear HBN HOn hbe
  go_wp2_with fail
  refine (HM.out _ _ HRq.out (HT.out.below HB3.out)).mono ?_
  rintro e wf ⟨sg, pa, ka, ca, pb, kb, cb, rfl, HF, hBf⟩
  have HV4 := hid (And.intro (HV3.out.2.below hBf) (HB3.out.trans (hBf.mono HB3.out.size)))
  clear x0 x1 x2 hBf
  obtain ⟨x0, x1, x2, y0, y1, y2⟩ := HV4.out.1.cells
  go_wp2_with fail
  exact FracRootUp_ret rfl (HV4.out.1.store trivial trivial trivial) ⟨_, rfl, HF.out.store3 HV4.out.1 _ _ _, below_set3 HV4.out.2 (Nat.le_succ _)⟩
end Go.Proofs.YtheojajaefjecaaGreatDoor
