/- Roots on a grid, in the specification. Roots on a grid, in the specification: negative numbers, and the call itself. -/
import Derived.Test.YtheojajaefjecaaGreatDoorGrtM
import Derived.Test.YtheojajaefjecaaGreatDoorRootQ
import Derived.Test.YtheojajaefjecaaGreatDoorRootH
import Derived.Test.YtheojajaefjecaaGreatDoorGrtQ
set_option maxHeartbeats 8000000
set_option maxRecDepth 100000
namespace Go.Proofs.YtheojajaefjecaaGreatDoor
open Go.RowKit Dg Rt
theorem np_bd16 {n p : Nat} (h8 : n ≤ 8) (hp : p ≤ 256) : n * p ≤ 2048 := Nat.mul_le_mul h8 hp
theorem bg_300k {x a : Nat} (h : x < B16 ^ a) (ha : a ≤ 400) : x < B16 ^ 300000 := by
 have hk : a ≤ 300000 := by omega
 generalize 300000 = b at *
 exact b_bigk h hk
theorem Var3.keepB {w w' : World} {B N : Nat} {x y z : Value} (h : Var3 w B x y z) (hN : B < N) (hb : Below N w w') : Var3 w' B x y z := by
 obtain ⟨t, h0, h1⟩ := h
 exact ⟨t, by rw [hb.block _ hN]; exact h0, h1⟩
theorem UponF.drew {F : Nat} {W w' : World} (h : UponF F W w') : UponF F W w'.drew := ⟨h.1.drew, h.2⟩
theorem two_leB {m k : Nat} (h : m ≤ 16 * k) : 2 ^ m ≤ B16 ^ k := by
 have h2 : (2 : Nat) ^ m ≤ 2 ^ (16 * k) := Nat.pow_le_pow_right (by decide) h
 rwa [Nat.pow_mul 2 16 k] at h2
theorem gsc_B {t : Bool × Nat × Nat} {n p : Nat} (hn : t.2.1 < B16 ^ 128) (h8 : n ≤ 8) (hp : p ≤ 256) : t.2.1 * 2 ^ (n * p) < B16 ^ 256 := by
 have h1 : 2 ^ (n * p) ≤ B16 ^ 128 := two_leB (by have := np_bd16 h8 hp; omega)
 have h3 : t.2.1 * 2 ^ (n * p) < B16 ^ 128 * B16 ^ 128 := by
  rcases Nat.eq_zero_or_pos (2 ^ (n * p)) with h0 | h0
  ·rw [h0, Nat.mul_zero]; exact Nat.mul_pos (Nat.pow_pos B16_pos) (Nat.pow_pos B16_pos)
  ·exact Nat.lt_of_lt_of_le (Nat.mul_lt_mul_of_pos_right hn h0) (Nat.mul_le_mul_left _ h1)
 rwa [← Nat.pow_add] at h3
theorem gr_b {s : Bool} {m p : Nat} (hm : m < B16 ^ 129) (hp : p ≤ 256) : (frac s m (2 ^ p)).2.1 < B16 ^ 200 ∧ (frac s m (2 ^ p)).2.2 < B16 ^ 200 := by
 have h1 : 2 ^ p < B16 ^ 17 := two_bk (by omega)
 have h2 : B16 ^ 129 ≤ B16 ^ 200 := Nat.pow_le_pow_right B16_pos (by omega)
 have h3 : B16 ^ 17 ≤ B16 ^ 200 := Nat.pow_le_pow_right B16_pos (by omega)
 exact ⟨Nat.lt_of_le_of_lt (Nat.div_le_self _ _) (Nat.lt_of_lt_of_le hm h2), Nat.lt_of_le_of_lt (Nat.div_le_self _ _) (Nat.lt_of_lt_of_le h1 h3)⟩
theorem gsz_B {t : Bool × Nat × Nat} {n p : Nat} (hn : t.2.1 < B16 ^ 128) (h2 : 2 ≤ n) (h8 : n ≤ 8) (hp : p ≤ 256) : gsz t n p + 1 < B16 ^ 129 := by
 have h1 : gsz t n p ^ n < B16 ^ 128 * B16 ^ 128 := by
  rw [← Nat.pow_add]
  exact Nat.lt_of_le_of_lt (Nat.le_trans (gsz_pow t (by omega) p) (gsc_le t n p)) (gsc_B hn h8 hp)
 have h3 : gsz t n p < B16 ^ 128 := by
  rcases Nat.lt_or_ge (gsz t n p) (B16 ^ 128) with h | h
  ·exact h
  ·exfalso
   have h4 : B16 ^ 128 * B16 ^ 128 ≤ gsz t n p * gsz t n p := Nat.mul_le_mul h h
   have h5 : gsz t n p ^ 2 ≤ gsz t n p ^ n := Nat.pow_le_pow_right (Nat.lt_of_lt_of_le (Nat.pow_pos B16_pos) h) h2
   rw [Nat.pow_two] at h5
   omega
 have h4 : B16 ^ 128 < B16 ^ 129 := Nat.pow_lt_pow_right (by decide) (by omega)
 omega
theorem grdn_b {t : Bool × Nat × Nat} {n p : Nat} (hn : t.2.1 < B16 ^ 128) (h2 : 2 ≤ n) (h8 : n ≤ 8) (hp : p ≤ 256) : (grdn t n p).2.1 < B16 ^ 200 ∧ (grdn t n p).2.2 < B16 ^ 200 := by
 have h := gsz_B hn h2 h8 hp
 unfold grdn
 refine gr_b ?_ hp
 split <;> omega
theorem rRB_ret {W : World} {B : Nat} {x y z : Value} {tm : Array Value} {R : Ending → World → Prop} (h2 : tm[6]?.getD undef = .pointer (some ⟨B, 0, none⟩)) (hV : Var3 W B x y z) (hR : R (.returned (.agg #[x, y, z])) W) :
  bodyPost Tryz.prog Tryz.f66 R .ret { tmps := tm, defers := [] } W := by
 obtain ⟨c0, c1, c2, _, _, _⟩ := hV.cells
 exact bodyPost_ret (v := .agg #[x, y, z]) (by simp [results, Tryz.results66, go_sem, h2, c0, c1, c2]) rfl hR
theorem rRA_ret {W : World} {B : Nat} {x y z : Value} {tm : Array Value} {R : Ending → World → Prop} (h2 : tm[6]?.getD undef = .pointer (some ⟨B, 0, none⟩)) (hV : Var3 W B x y z) (hR : R (.returned (.agg #[x, y, z])) W) :
  bodyPost Tryz.prog Tryz.f67 R .ret { tmps := tm, defers := [] } W := by
 obtain ⟨c0, c1, c2, _, _, _⟩ := hV.cells
 exact bodyPost_ret (v := .agg #[x, y, z]) (by simp [results, Tryz.results67, go_sem, h2, c0, c1, c2]) rfl hR
theorem rBelowPos_any (v : Value) (t : Bool × Nat × Nat) (n p : Nat) (w : World) (h : QNorm w v t) (hs : t.1 = false) (h0 : 0 < t.2.2) (hn : t.2.1 < B16 ^ 128) (hd : t.2.2 < B16 ^ 128) (h2 : 2 ≤ n) (h8 : n ≤ 8) (hp : p ≤ 256) :
  Calls Tryz.prog 66 #[v, .int .i64 (n : Int), .int .i64 (p : Int)] w fun e w' => ∃ v', e = .returned v' ∧ QNorm w' v' (grdn t n p) ∧ Below w.heap.size w w' := by
 have hX := gsc_B hn h8 hp
 have hwm : IntKind.i64.wrap ((n : Int) * (p : Int)) = ((n * p : Nat) : Int) := by rw [← Int.natCast_mul, IntKind.wrap_i64]; have := np_bd16 h8 hp; omega
 have hwr : IntKind.i64.wrap (-(p : Int)) = -(p : Int) := by rw [IntKind.wrap_i64]; omega
 have HDa := hid (fun (W : World) (hW : Below w.heap.size w W) => den_any v t.1 t.2.1 t.2.2 W (h.below hW))
 rw [den1_self h0] at HDa
 obtain ⟨vn1, vd1, rfl, hrn, hrd⟩ := h
 have HSh := hid (fun (W : World) (hW : Below w.heap.size w W) => NatShg_any vn1 t.2.1 (n * p) W (hrn.below hW) (b_big hn (by omega)) (by have := np_bd16 h8 hp; omega))
 have HDv := hid (fun (W : World) (v1 v2 : Value) (h1 : Rep B16 W v1 (t.2.1 * 2 ^ (n * p))) (h2 : Rep B16 W v2 t.2.2) => NatDiv_any v1 v2 (t.2.1 * 2 ^ (n * p)) t.2.2 W h1 h2 (lt_8w hX (by omega)) (lt_8w hd (by omega)) h0)
 have hsc : gsc t n p < B16 ^ 256 := Nat.lt_of_le_of_lt (gsc_le t n p) hX
 have hsz := gsz_B hn h2 h8 hp
 have HRt := hid (fun (W : World) (v1 : Value) (h1 : Rep B16 W v1 (gsc t n p)) => NatRoot_any v1 (gsc t n p) n 256 W h1 hsc (by omega) h2 h8)
 have HOf := hid (fun (W : World) => NatOf_any 1 W (by decide))
 have HMk := hid (fun (W : World) (v1 v2 : Value) (h1 : Rep B16 W v1 (gsz t n p)) (h2 : Rep B16 W v2 1) => Make_open false v1 v2 (gsz t n p) 1 129 W h1 h2 (by omega) (one_b (by omega)) (by omega) Nat.one_pos)
 have hm1 : (frac false (gsz t n p) 1).2.1 < B16 ^ 129 ∧ (frac false (gsz t n p) 1).2.2 < B16 ^ 129 := ⟨Nat.lt_of_le_of_lt (Nat.div_le_self _ _) (by omega), Nat.lt_of_le_of_lt (Nat.div_le_self _ _) (one_b (by omega))⟩
 have HSc := hid (fun (W : World) (v1 : Value) (h1 : QNorm W v1 (frac false (gsz t n p) 1)) => qopen (t := grdn t n p) (by rw [grdn_pos hs, ← sdn_one]; exact rScaledNeg_any v1 (frac false (gsz t n p) 1) p 129 W h1 hm1.1 hm1.2 (by omega) (by omega) (frac_pos Nat.one_pos)))
 rw [show nroot (gsc t n p) n = gsz t n p from rfl] at HRt
 rw [show t.2.1 * 2 ^ (n * p) / t.2.2 = gsc t n p from rfl] at HDv
 clear hX hn hd h2 h8 hp hsc hsz hm1 h0
 obtain ⟨X, hX⟩ : ∃ b, b = t.2.1 * 2 ^ (n * p) := ⟨_, rfl⟩
 rw [← hX] at HSh HDv
 obtain ⟨q, hqq⟩ : ∃ r, r = gsc t n p := ⟨_, rfl⟩
 rw [← hqq] at HDv HRt
 obtain ⟨z, hz⟩ : ∃ r, r = gsz t n p := ⟨_, rfl⟩
 rw [← hz] at HRt HMk HSc
 obtain ⟨gt, hgt⟩ : ∃ r, r = grdn t n p := ⟨_, rfl⟩
 rw [← hgt] at HSc ⊢
 obtain ⟨ft, hft⟩ : ∃ r, r = frac false z 1 := ⟨_, rfl⟩
 rw [← hft] at HSc HMk
 clear hX hqq hz hgt hft
 obtain ⟨p1, k1, c1, rfl, _⟩ := hrn
 obtain ⟨p2, k2, c2, rfl, _⟩ := hrd
 rw [hs] at HDa ⊢
 clear hs
 have hal := below_alloc2 w (.cells #[.bool false, .slice p1 k1 c1, .slice p2 k2 c2] 47) (.cells #[.bool false, .slice none 0 0, .slice none 0 0] 47)
 have hVa := (Var3.alloc w (x := .bool false) (y := .slice p1 k1 c1) (z := .slice p2 k2 c2) 47 trivial trivial trivial).below ((Below.refl _ _).alloc (Nat.le_refl _) (.cells #[.bool false, .slice none 0 0, .slice none 0 0] 47))
 have hVr := Var3.alloc2 w (.cells #[.bool false, .slice p1 k1 c1, .slice p2 k2 c2] 47) (x := .bool false) (y := .slice none 0 0) (z := .slice none 0 0) 47 trivial trivial trivial
 go_enter Tryz.func66, Tryz.ntmps66
 go_upto_region 1 with fail
 generalize (w.alloc (.cells #[.bool false, .slice p1 k1 c1, .slice p2 k2 c2] 47)).alloc (.cells #[.bool false, .slice none 0 0, .slice none 0 0] 47) = W0 at *
 have HV := hid (And.intro hVr hal)
 have HB0 := hid hal
 obtain ⟨a0, a1, a2, _⟩ := id hVa.cells
 have HS : Hid (∀ w', Below W0.heap.size W0 w' → (w'.cell? ⟨w.heap.size, 0, none⟩ = some (.bool false) ∧ w'.cell? ⟨w.heap.size, 1, none⟩ = some (.slice p1 k1 c1) ∧ w'.cell? ⟨w.heap.size, 2, none⟩ = some (.slice p2 k2 c2) ∧ Hid (Below W0.heap.size W0 w'))) :=
  hid fun w' hb => ⟨(hVa.below hb).cells.1, (hVa.below hb).cells.2.1, (hVa.below hb).cells.2.2.1, hid hb⟩
 clear hVr hVa hal
 go_upto_region 3 with fail
 go_wp2_with fail
 go_region_held3 (fun w' => w'.cell? ⟨w.heap.size, 0, none⟩ = some (.bool false) ∧ w'.cell? ⟨w.heap.size, 1, none⟩ = some (.slice p1 k1 c1) ∧ w'.cell? ⟨w.heap.size, 2, none⟩ = some (.slice p2 k2 c2) ∧ Hid (Below W0.heap.size W0 w'))
  (first | exact HS.out _ (Below.refl _ _).drew | (exact HS.out _ (by assumption)))
  (first
   | (go_at_call 137; refine (HSh.out _ (HB0.out.trans ((held3' (N := W0.heap.size) (W0 := W0) (by assumption)).mono HB0.out.size))).mono ?_; rintro e wa ⟨v5, rfl, hRa, hBa⟩; have hKa := held_any (held3' (W0 := W0) (by assumption)) hBa)
   | (go_at_call 97; refine (HDa.out _ (HB0.out.trans ((held3' (N := W0.heap.size) (W0 := W0) (by assumption)).mono HB0.out.size))).mono ?_; rintro e wb ⟨v6, rfl, hRb, hBb⟩; have hKb := held_any (held3' (W0 := W0) (by assumption)) hBb; have hRa2 := hRa.below hBb)
   | (go_at_call 136; refine (HDv.out _ _ _ hRa2 hRb).mono ?_; rintro e wc ⟨v7, v8, rfl, hRc, hRd, hBc⟩; have hKc := held_any (held3' (W0 := W0) (by assumption)) hBc))
 rename_i hHeld
 clear hHeld
 have HRc := hid hRc
 replace HV := hid (And.intro (HV.out.1.below hKc) (HV.out.2.trans (hKc.mono HV.out.2.size)))
 clear HS HB0 HDa HSh HDv hRa hBa hKa hRb hBb hKb hRa2 hRc hRd hBc hKc a0 a1 a2
 go_wp2_with fail
 refine (HRt.out _ _ HRc.out).mono ?_
 rintro e w1 ⟨v9, rfl, hR9, hst⟩
 have HR9 := hid hR9
 replace HV := hid (And.intro (HV.out.1.below hst) (HV.out.2.trans (hst.mono HV.out.2.size)))
 clear hR9 hst HRt HRc
 go_wp2_with fail
 refine (HOf.out _).mono ?_
 rintro e w2 ⟨v10, rfl, hR10, hst⟩
 have HR10 := hid (And.intro (HR9.out.below hst) hR10)
 replace HV := hid (And.intro (HV.out.1.below hst) (HV.out.2.trans (hst.mono HV.out.2.size)))
 clear hR10 hst HOf HR9
 go_wp2_with fail
 refine (HMk.out _ _ _ HR10.out.1 HR10.out.2).mono ?_
 rintro e w3 ⟨sg, pa, ka, ca, pb, kb, cb, rfl, hQ, hst⟩
 replace HV := hid (And.intro (HV.out.1.below hst) (HV.out.2.trans (hst.mono HV.out.2.size)))
 clear hst HMk HR10
 go_wp2_with fail
 refine (HSc.out _ _ hQ.out).mono ?_
 rintro e w4 ⟨se, pe, ke, ce, pf, kf, cf, rfl, HF, hst⟩
 replace HV := hid (And.intro (HV.out.1.below hst) (HV.out.2.trans (hst.mono HV.out.2.size)))
 clear hst HSc
 obtain ⟨x0, x1, x2, y0, y1, y2⟩ := HV.out.1.cells
 go_wp2_with fail
 exact rRB_ret rfl (HV.out.1.store trivial trivial trivial) ⟨_, rfl, HF.out.store3 HV.out.1 _ _ _, below_set3 HV.out.2 (Nat.le_succ _)⟩
theorem rAbovePos_any (v : Value) (t : Bool × Nat × Nat) (n p : Nat) (w : World) (h : QNorm w v t) (hs : t.1 = false) (h0 : 0 < t.2.2) (hn : t.2.1 < B16 ^ 128) (hd : t.2.2 < B16 ^ 128) (h2 : 2 ≤ n) (h8 : n ≤ 8) (hp : p ≤ 256) :
  Calls Tryz.prog 67 #[v, .int .i64 (n : Int), .int .i64 (p : Int)] w fun e w' => ∃ v', e = .returned v' ∧ QNorm w' v' (grup t n p) ∧ Below w.heap.size w w' := by
 have hwr : IntKind.i64.wrap (-(p : Int)) = -(p : Int) := by rw [IntKind.wrap_i64]; omega
 have hb := grdn_b hn h2 h8 hp
 have hz := grdn_pow (t := t) (n := n) (p := p) hs (by omega) h0
 have hfr := grdn_fr t n p
 have HRb := hid (fun (W : World) (hW : Below w.heap.size w W) => qopen (t := grdn t n p) (rBelowPos_any v t n p W (h.below hW) hs h0 hn hd h2 h8 hp))
 have HPw := hid (fun (W : World) (v1 : Value) (h1 : QNorm W v1 (grdn t n p)) => rPowerPos_any v1 (grdn t n p) n W h1 (b_1000 hb.1 (by omega)) (b_1000 hb.2 (by omega)) (by omega) hfr.pos)
 have hPb : (fpow (grdn t n p) n).2.1 < B16 ^ 300000 ∧ (fpow (grdn t n p) n).2.2 < B16 ^ 300000 := ⟨pow_Bb hb.1 (by omega) (by omega), pow_Bb hb.2 (by omega) (by omega)⟩
 have HCm := hid (fun (W : World) (v1 : Value) (hW : Below w.heap.size w W) (h1 : QNorm W v1 (fpow (grdn t n p) n)) => rCmp_any v1 v (fpow (grdn t n p) n) t 300000 W h1 (h.below hW) hPb.1 hPb.2 (bg_300k hn (by omega)) (bg_300k hd (by omega)) (by omega) (hfr.pow n).pos h0)
 have HIn := hid (fun (W : World) => qopen (t := frac false 1 1) (rInt_any 1 W (by decide) (by decide)))
 have HSc := hid (fun (W : World) (v1 : Value) (h1 : QNorm W v1 (frac false 1 1)) => qopen (t := frac false 1 (2 ^ p)) (by rw [← sdn_one]; exact rScaledNeg_any v1 (frac false 1 1) p 1 W h1 (one_b (by omega)) (one_b (by omega)) (by omega) (by omega) (frac_pos Nat.one_pos)))
 have hb1 := gr_b (s := false) (m := 1) (p := p) (one_b (by omega)) hp
 have HSm := hid (fun (W : World) (v1 v2 : Value) (h1 : QNorm W v1 (grdn t n p)) (h2 : QNorm W v2 (frac false 1 (2 ^ p))) => qopen (t := fadd (grdn t n p) (frac false 1 (2 ^ p))) (rSum_any v1 v2 _ _ _ _ _ _ 200 W h1 h2 hb.1 hb.2 hb1.1 hb1.2 (by omega) hfr.pos (frac_pos (s := false) (Nat.pow_pos (by decide)))))
 have hgr := grup_pos hs n p
 obtain ⟨gu, hgu⟩ : ∃ r, r = grup t n p := ⟨_, rfl⟩
 rw [← hgu] at hgr ⊢
 obtain ⟨ge, hge⟩ : ∃ r, r = gex t n p := ⟨_, rfl⟩
 rw [← hge] at hgr hz
 obtain ⟨cq, hcq⟩ : ∃ c, c = fcmp (fpow (grdn t n p) n) t := ⟨_, rfl⟩
 rw [← hcq] at HCm hz
 obtain ⟨tp, htp⟩ : ∃ c, c = fpow (grdn t n p) n := ⟨_, rfl⟩
 rw [← htp] at HCm HPw
 obtain ⟨ts, hts⟩ : ∃ c, c = fadd (grdn t n p) (frac false 1 (2 ^ p)) := ⟨_, rfl⟩
 rw [← hts] at HSm hgr
 obtain ⟨tg, htg⟩ : ∃ c, c = grdn t n p := ⟨_, rfl⟩
 rw [← htg] at HRb HPw HSm hgr
 obtain ⟨t1, ht1⟩ : ∃ c, c = frac false 1 (2 ^ p) := ⟨_, rfl⟩
 rw [← ht1] at HSc HSm
 have HG := hid (And.intro hgr hz)
 clear hb hz hfr hPb hb1 hgr hgu hge hcq htp hts htg ht1 hn hd h2 h8 hp h0
 obtain ⟨vn1, vd1, rfl, hrn, hrd⟩ := h
 obtain ⟨p1, k1, c1, rfl, _⟩ := hrn
 obtain ⟨p2, k2, c2, rfl, _⟩ := hrd
 rw [hs] at HRb HCm ⊢
 clear hs
 have hal := below_alloc2 w (.cells #[.bool false, .slice p1 k1 c1, .slice p2 k2 c2] 47) (.cells #[.bool false, .slice none 0 0, .slice none 0 0] 47)
 have hVa := (Var3.alloc w (x := .bool false) (y := .slice p1 k1 c1) (z := .slice p2 k2 c2) 47 trivial trivial trivial).below ((Below.refl _ _).alloc (Nat.le_refl _) (.cells #[.bool false, .slice none 0 0, .slice none 0 0] 47))
 have hVr := Var3.alloc2 w (.cells #[.bool false, .slice p1 k1 c1, .slice p2 k2 c2] 47) (x := .bool false) (y := .slice none 0 0) (z := .slice none 0 0) 47 trivial trivial trivial
 go_enter Tryz.func67, Tryz.ntmps67
 go_upto_region 1 with fail
 generalize (w.alloc (.cells #[.bool false, .slice p1 k1 c1, .slice p2 k2 c2] 47)).alloc (.cells #[.bool false, .slice none 0 0, .slice none 0 0] 47) = W0 at *
 have HV := hid (And.intro hVr (And.intro hal hVa))
 obtain ⟨a0, a1, a2, _⟩ := id hVa.cells
 clear hVr hVa hal
 go_upto_region 3 with fail
 go_wp2_with fail
 refine (HRb.out _ HV.out.2.1).mono ?_
 rintro e w1 ⟨sg, pa, ka, ca, pb, kb, cb, rfl, hQ, hst⟩
 clear a0 a1 a2
 go_upto_region 4 with fail
 have hR5 := Var3.alloc w1 (x := .bool sg) (y := .slice pa ka ca) (z := .slice pb kb cb) 47 trivial trivial trivial
 have ha1 := (Below.refl w1.heap.size w1).alloc (Nat.le_refl _) (.cells #[.bool sg, .slice pa ka ca, .slice pb kb cb] 47)
 have hst1 := held_any hst ha1
 have hQ5 := hQ.out.below ha1
 have hV5 := HV.out.1.below hst1
 have hA5 := HV.out.2.2.below hst1
 have hB5 := HV.out.2.1.trans (hst1.mono HV.out.2.1.size)
 have hlt : w.heap.size + 1 < w1.heap.size := by
  obtain ⟨_, h0, _⟩ := HV.out.1
  exact Nat.lt_of_lt_of_le (Array.getElem?_eq_some_iff.1 h0).1 hst.size
 clear hst ha1 hst1 hQ HV HRb
 generalize w1.alloc (.cells #[.bool sg, .slice pa ka ca, .slice pb kb cb] 47) = W5 at *
 generalize w1.heap.size = X at *
 have hF5 : w.heap.size + 1 < W5.heap.size := by
  obtain ⟨_, h0, _⟩ := hV5
  exact (Array.getElem?_eq_some_iff.1 h0).1
 have hneA : w.heap.size ≠ w.heap.size + 1 := by omega
 have HS2 : Hid (∀ w', UponF (w.heap.size + 1) W5 w' → (w'.cell? ⟨X, 0, none⟩ = some (.bool sg) ∧ w'.cell? ⟨X, 1, none⟩ = some (.slice pa ka ca) ∧ w'.cell? ⟨X, 2, none⟩ = some (.slice pb kb cb) ∧ w'.cell? ⟨w.heap.size, 0, none⟩ = some (.bool false) ∧ w'.cell? ⟨w.heap.size, 1, none⟩ = some (.slice p1 k1 c1) ∧ w'.cell? ⟨w.heap.size, 2, none⟩ = some (.slice p2 k2 c2) ∧ Hid (UponF (w.heap.size + 1) W5 w'))) :=
  hid fun w' hb => ⟨(hR5.upon hlt hb).cells.1, (hR5.upon hlt hb).cells.2.1, (hR5.upon hlt hb).cells.2.2.1, (hA5.keepB (Nat.lt_succ_self _) hb.1).cells.1, (hA5.keepB (Nat.lt_succ_self _) hb.1).cells.2.1, (hA5.keepB (Nat.lt_succ_self _) hb.1).cells.2.2.1, hid hb⟩
 have HE := hid (And.intro hV5 (And.intro hB5 (And.intro hR5 (And.intro hQ5 hF5))))
 clear hV5 hB5 hR5 hQ5 hF5 hA5 hlt hneA
 by_cases hg0 : cq = 0
 ·obtain rfl := hg0
  have hge := HG.out.2.1 rfl
  have HGu := hid (HG.out.1.trans (if_pos hge))
  clear hge HG
  go_wp2_with fail
  go_region_held3 (fun w' => w'.cell? ⟨X, 0, none⟩ = some (.bool sg) ∧ w'.cell? ⟨X, 1, none⟩ = some (.slice pa ka ca) ∧ w'.cell? ⟨X, 2, none⟩ = some (.slice pb kb cb) ∧ w'.cell? ⟨w.heap.size, 0, none⟩ = some (.bool false) ∧ w'.cell? ⟨w.heap.size, 1, none⟩ = some (.slice p1 k1 c1) ∧ w'.cell? ⟨w.heap.size, 2, none⟩ = some (.slice p2 k2 c2) ∧ Hid (UponF (w.heap.size + 1) W5 w'))
   (first | exact HS2.out _ (UponF.drew0 _ W5) | (exact HS2.out _ (by assumption)))
   (first
    | (go_at_call 132; refine (HPw.out _ _ (HE.out.2.2.2.1.below (Below.refl _ _).drew)).mono ?_; rintro e we ⟨v8, rfl, hQe, hBe⟩; have hKe := held_any (W0 := W5) (Below.refl _ _).drew hBe; have hUe := UponF.of_below hKe HE.out.2.2.2.2)
    | (go_at_call 119; refine (HCm.out _ _ (HE.out.2.1.trans (hKe.mono HE.out.2.1.size)) hQe).mono ?_; rintro e wf ⟨rfl, hBf⟩; have hKf := held_any hKe hBf; have hUf := UponF.of_below hKf HE.out.2.2.2.2))
  rename_i hHeld
  clear hHeld
  have HV6 := hid (And.intro (HE.out.1.below hKf) (And.intro (HE.out.2.1.trans (hKf.mono HE.out.2.1.size)) (And.intro (HE.out.2.2.1.below hKf) (HE.out.2.2.2.1.below hKf))))
  clear hUf hUe hKf hKe hBf hBe hQe HCm HPw
  obtain ⟨x0, x1, x2, _⟩ := HV6.out.2.2.1.cells
  obtain ⟨y0, y1, y2, z0, z1, z2⟩ := HV6.out.1.cells
  go_wp2_with fail
  exact rRA_ret rfl (HV6.out.1.store trivial trivial trivial) ⟨_, rfl, by rw [HGu.out]; exact HV6.out.2.2.2.store3 HV6.out.1 _ _ _, below_set3 HV6.out.2.1 (Nat.le_succ _)⟩
 ·have hcb : (cq == 0) = false := by simpa using hg0
  have HGu : Hid (gu = ts) := hid (HG.out.1.trans (if_neg fun h => hg0 (HG.out.2.2 h)))
  clear hg0 HG
  go_wp2_with fail
  go_region_held3 (fun w' => w'.cell? ⟨X, 0, none⟩ = some (.bool sg) ∧ w'.cell? ⟨X, 1, none⟩ = some (.slice pa ka ca) ∧ w'.cell? ⟨X, 2, none⟩ = some (.slice pb kb cb) ∧ w'.cell? ⟨w.heap.size, 0, none⟩ = some (.bool false) ∧ w'.cell? ⟨w.heap.size, 1, none⟩ = some (.slice p1 k1 c1) ∧ w'.cell? ⟨w.heap.size, 2, none⟩ = some (.slice p2 k2 c2) ∧ Hid (UponF (w.heap.size + 1) W5 w'))
   (first | exact HS2.out _ (UponF.drew0 _ W5) | (exact HS2.out _ (by assumption)))
   (first
    | (go_at_call 132; refine (HPw.out _ _ (HE.out.2.2.2.1.below (Below.refl _ _).drew)).mono ?_; rintro e we ⟨v8, rfl, hQe, hBe⟩; have hKe := held_any (W0 := W5) (Below.refl _ _).drew hBe; have hUe := UponF.of_below hKe HE.out.2.2.2.2)
    | (go_at_call 119; refine (HCm.out _ _ (HE.out.2.1.trans (hKe.mono HE.out.2.1.size)) hQe).mono ?_; rintro e wf ⟨rfl, hBf⟩; have hKf := held_any hKe hBf; have hUf := UponF.of_below hKf HE.out.2.2.2.2))
  rename_i hHeld
  clear hHeld
  have HU6 := hid hUf
  have HV6 := hid (And.intro (HE.out.1.below hKf) (And.intro (HE.out.2.1.trans (hKf.mono HE.out.2.1.size)) (HE.out.2.2.2.1.below hKf)))
  have hX6 := hKf.size
  obtain ⟨x0, x1, x2, y0, y1, y2⟩ := (HE.out.1.below hKf).cells
  clear hUf hUe hKe hBf hBe hQe HCm HPw
  go_wp2_with fail
  go_region_held3 (fun w' => w'.cell? ⟨X, 0, none⟩ = some (.bool sg) ∧ w'.cell? ⟨X, 1, none⟩ = some (.slice pa ka ca) ∧ w'.cell? ⟨X, 2, none⟩ = some (.slice pb kb cb) ∧ w'.cell? ⟨w.heap.size, 0, none⟩ = some (.bool false) ∧ w'.cell? ⟨w.heap.size, 1, none⟩ = some (.slice p1 k1 c1) ∧ w'.cell? ⟨w.heap.size, 2, none⟩ = some (.slice p2 k2 c2) ∧ Hid (UponF (w.heap.size + 1) W5 w'))
   (first | exact HS2.out _ HU6.out.drew | (exact HS2.out _ (by assumption)) | (exact HS2.out _ (UponF.set3 (by assumption) _ _ _)))
   (first
    | (go_at_call 30; refine (HIn.out _).mono ?_; rintro e wg ⟨s8, p8, k8, c8, p9, k9, c9, rfl, hQg, hBg⟩; have hUg := UponF.below HU6.out.drew HE.out.2.2.2.2 hBg; have hKg := held_any hKf.drew hBg)
    | (go_at_call 138; refine (HSc.out _ _ hQg.out).mono ?_; rintro e wh ⟨s10, p10, k10, c10, p11, k11, c11, rfl, hQh, hBh⟩; have hUh := UponF.below hUg HE.out.2.2.2.2 hBh; have hKh := held_any hKg hBh)
    | (go_at_call 92; refine (HSm.out _ _ _ (HE.out.2.2.2.1.below hKh) hQh.out).mono ?_; rintro e wi ⟨s12, p12, k12, c12, p13, k13, c13, rfl, hQi, hBi⟩; have hUi := UponF.below hUh HE.out.2.2.2.2 hBi; have hKi := held_any hKh hBi; obtain ⟨x0, x1, x2, y0, y1, y2⟩ := (HE.out.1.below hKi).cells))
  rename_i hHeld
  clear hHeld
  have HV7 := hid (And.intro (HE.out.1.below hKi) (HE.out.2.1.trans (hKi.mono HE.out.2.1.size)))
  go_wp2_with fail
  exact rRA_ret rfl (HV7.out.1.store trivial trivial trivial) ⟨_, rfl, by rw [HGu.out]; exact hQi.out.store3 HV7.out.1 _ _ _, below_set3 HV7.out.2 (Nat.le_succ _)⟩
end Go.Proofs.YtheojajaefjecaaGreatDoor

set_option maxHeartbeats 8000000
set_option maxRecDepth 100000
namespace Go.Proofs.YtheojajaefjecaaGreatDoor
open Go.RowKit Dg Rt
theorem rBelowNeg_any (v : Value) (t : Bool × Nat × Nat) (n p : Nat) (w : World) (h : QNorm w v t) (hs : t.1 = true) (h0 : 0 < t.2.2) (hn : t.2.1 < B16 ^ 128) (hd : t.2.2 < B16 ^ 128) (h2 : 2 ≤ n) (h8 : n ≤ 8) (hp : p ≤ 256) :
  Calls Tryz.prog 66 #[v, .int .i64 (n : Int), .int .i64 (p : Int)] w fun e w' => ∃ v', e = .returned v' ∧ QNorm w' v' (grdn t n p) ∧ Below w.heap.size w w' := by
 have hf : (fneg t).1 = false := by unfold fneg; rw [hs]; rfl
 have HO1 := hid (fun (W : World) (hW : Below w.heap.size w W) => qopen (t := fneg t) (Opp_any v t W (h.below hW)))
 have HRA := hid (fun (W : World) (v1 : Value) (h1 : QNorm W v1 (fneg t)) => qopen (t := grup (fneg t) n p) (rAbovePos_any v1 (fneg t) n p W h1 hf h0 hn hd h2 h8 hp))
 have HO2 := hid (fun (W : World) (v1 : Value) (h1 : QNorm W v1 (grup (fneg t) n p)) => qopen (t := grdn t n p) (by rw [grdn_neg hs]; exact Opp_any v1 _ W h1))
 obtain ⟨vn1, vd1, rfl, hrn, hrd⟩ := h
 obtain ⟨p1, k1, c1, rfl, _⟩ := hrn
 obtain ⟨p2, k2, c2, rfl, _⟩ := hrd
 rw [hs] at HO1 ⊢
 clear hs hf h0 hn hd h2 h8 hp
 obtain ⟨t1, ht1⟩ : ∃ c, c = fneg t := ⟨_, rfl⟩
 rw [← ht1] at HO1 HRA HO2
 obtain ⟨t2, ht2⟩ : ∃ c, c = grup t1 n p := ⟨_, rfl⟩
 rw [← ht2] at HRA HO2
 obtain ⟨t3, ht3⟩ : ∃ c, c = grdn t n p := ⟨_, rfl⟩
 rw [← ht3] at HO2 ⊢
 clear ht1 ht2 ht3
 have hal := below_alloc2 w (.cells #[.bool true, .slice p1 k1 c1, .slice p2 k2 c2] 47) (.cells #[.bool false, .slice none 0 0, .slice none 0 0] 47)
 have hVa := (Var3.alloc w (x := .bool true) (y := .slice p1 k1 c1) (z := .slice p2 k2 c2) 47 trivial trivial trivial).below ((Below.refl _ _).alloc (Nat.le_refl _) (.cells #[.bool false, .slice none 0 0, .slice none 0 0] 47))
 have hVr := Var3.alloc2 w (.cells #[.bool true, .slice p1 k1 c1, .slice p2 k2 c2] 47) (x := .bool false) (y := .slice none 0 0) (z := .slice none 0 0) 47 trivial trivial trivial
 go_enter Tryz.func66, Tryz.ntmps66
 go_upto_region 1 with fail
 generalize (w.alloc (.cells #[.bool true, .slice p1 k1 c1, .slice p2 k2 c2] 47)).alloc (.cells #[.bool false, .slice none 0 0, .slice none 0 0] 47) = W0 at *
 have HV := hid (And.intro hVr hal)
 obtain ⟨a0, a1, a2, _⟩ := id hVa.cells
 clear hVr hVa hal
 go_wp2_with fail
 refine (HO1.out _ HV.out.2).mono ?_
 rintro e w1 ⟨sg, pa, ka, ca, pb, kb, cb, rfl, hQ, hst⟩
 replace HV := hid (And.intro (HV.out.1.below hst) (HV.out.2.trans (hst.mono HV.out.2.size)))
 clear hst a0 a1 a2
 go_wp2_with fail
 refine (HRA.out _ _ hQ.out).mono ?_
 rintro e w2 ⟨sg2, pa2, ka2, ca2, pb2, kb2, cb2, rfl, hQ2, hst⟩
 replace HV := hid (And.intro (HV.out.1.below hst) (HV.out.2.trans (hst.mono HV.out.2.size)))
 clear hst hQ
 go_wp2_with fail
 refine (HO2.out _ _ hQ2.out).mono ?_
 rintro e w3 ⟨sg3, pa3, ka3, ca3, pb3, kb3, cb3, rfl, HF, hst⟩
 replace HV := hid (And.intro (HV.out.1.below hst) (HV.out.2.trans (hst.mono HV.out.2.size)))
 clear hst hQ2
 obtain ⟨x0, x1, x2, y0, y1, y2⟩ := HV.out.1.cells
 go_wp2_with fail
 exact rRB_ret rfl (HV.out.1.store trivial trivial trivial) ⟨_, rfl, HF.out.store3 HV.out.1 _ _ _, below_set3 HV.out.2 (Nat.le_succ _)⟩
theorem rBelow_any (v : Value) (t : Bool × Nat × Nat) (n p : Nat) (w : World) (h : QNorm w v t) (h0 : 0 < t.2.2) (hn : t.2.1 < B16 ^ 128) (hd : t.2.2 < B16 ^ 128) (h2 : 2 ≤ n) (h8 : n ≤ 8) (hp : p ≤ 256) :
  Calls Tryz.prog 66 #[v, .int .i64 (n : Int), .int .i64 (p : Int)] w fun e w' => ∃ v', e = .returned v' ∧ QNorm w' v' (grdn t n p) ∧ Below w.heap.size w w' := by
 cases hs : t.1
 ·exact rBelowPos_any v t n p w h hs h0 hn hd h2 h8 hp
 ·exact rBelowNeg_any v t n p w h hs h0 hn hd h2 h8 hp
theorem rAboveNeg_any (v : Value) (t : Bool × Nat × Nat) (n p : Nat) (w : World) (h : QNorm w v t) (hs : t.1 = true) (h0 : 0 < t.2.2) (hn : t.2.1 < B16 ^ 128) (hd : t.2.2 < B16 ^ 128) (h2 : 2 ≤ n) (h8 : n ≤ 8) (hp : p ≤ 256) :
  Calls Tryz.prog 67 #[v, .int .i64 (n : Int), .int .i64 (p : Int)] w fun e w' => ∃ v', e = .returned v' ∧ QNorm w' v' (grup t n p) ∧ Below w.heap.size w w' := by
 have hf : (fneg t).1 = false := by unfold fneg; rw [hs]; rfl
 have HO1 := hid (fun (W : World) (hW : Below w.heap.size w W) => qopen (t := fneg t) (Opp_any v t W (h.below hW)))
 have HRA := hid (fun (W : World) (v1 : Value) (h1 : QNorm W v1 (fneg t)) => qopen (t := grdn (fneg t) n p) (rBelowPos_any v1 (fneg t) n p W h1 hf h0 hn hd h2 h8 hp))
 have HO2 := hid (fun (W : World) (v1 : Value) (h1 : QNorm W v1 (grdn (fneg t) n p)) => qopen (t := grup t n p) (by rw [grup_neg hs]; exact Opp_any v1 _ W h1))
 obtain ⟨vn1, vd1, rfl, hrn, hrd⟩ := h
 obtain ⟨p1, k1, c1, rfl, _⟩ := hrn
 obtain ⟨p2, k2, c2, rfl, _⟩ := hrd
 rw [hs] at HO1 ⊢
 clear hs hf h0 hn hd h2 h8 hp
 obtain ⟨t1, ht1⟩ : ∃ c, c = fneg t := ⟨_, rfl⟩
 rw [← ht1] at HO1 HRA HO2
 obtain ⟨t2, ht2⟩ : ∃ c, c = grdn t1 n p := ⟨_, rfl⟩
 rw [← ht2] at HRA HO2
 obtain ⟨t3, ht3⟩ : ∃ c, c = grup t n p := ⟨_, rfl⟩
 rw [← ht3] at HO2 ⊢
 clear ht1 ht2 ht3
 have hal := below_alloc2 w (.cells #[.bool true, .slice p1 k1 c1, .slice p2 k2 c2] 47) (.cells #[.bool false, .slice none 0 0, .slice none 0 0] 47)
 have hVa := (Var3.alloc w (x := .bool true) (y := .slice p1 k1 c1) (z := .slice p2 k2 c2) 47 trivial trivial trivial).below ((Below.refl _ _).alloc (Nat.le_refl _) (.cells #[.bool false, .slice none 0 0, .slice none 0 0] 47))
 have hVr := Var3.alloc2 w (.cells #[.bool true, .slice p1 k1 c1, .slice p2 k2 c2] 47) (x := .bool false) (y := .slice none 0 0) (z := .slice none 0 0) 47 trivial trivial trivial
 go_enter Tryz.func67, Tryz.ntmps67
 go_upto_region 1 with fail
 generalize (w.alloc (.cells #[.bool true, .slice p1 k1 c1, .slice p2 k2 c2] 47)).alloc (.cells #[.bool false, .slice none 0 0, .slice none 0 0] 47) = W0 at *
 have HV := hid (And.intro hVr hal)
 obtain ⟨a0, a1, a2, _⟩ := id hVa.cells
 clear hVr hVa hal
 go_wp2_with fail
 refine (HO1.out _ HV.out.2).mono ?_
 rintro e w1 ⟨sg, pa, ka, ca, pb, kb, cb, rfl, hQ, hst⟩
 replace HV := hid (And.intro (HV.out.1.below hst) (HV.out.2.trans (hst.mono HV.out.2.size)))
 clear hst a0 a1 a2
 go_wp2_with fail
 refine (HRA.out _ _ hQ.out).mono ?_
 rintro e w2 ⟨sg2, pa2, ka2, ca2, pb2, kb2, cb2, rfl, hQ2, hst⟩
 replace HV := hid (And.intro (HV.out.1.below hst) (HV.out.2.trans (hst.mono HV.out.2.size)))
 clear hst hQ
 go_wp2_with fail
 refine (HO2.out _ _ hQ2.out).mono ?_
 rintro e w3 ⟨sg3, pa3, ka3, ca3, pb3, kb3, cb3, rfl, HF, hst⟩
 replace HV := hid (And.intro (HV.out.1.below hst) (HV.out.2.trans (hst.mono HV.out.2.size)))
 clear hst hQ2
 obtain ⟨x0, x1, x2, y0, y1, y2⟩ := HV.out.1.cells
 go_wp2_with fail
 exact rRA_ret rfl (HV.out.1.store trivial trivial trivial) ⟨_, rfl, HF.out.store3 HV.out.1 _ _ _, below_set3 HV.out.2 (Nat.le_succ _)⟩
theorem rAbove_any (v : Value) (t : Bool × Nat × Nat) (n p : Nat) (w : World) (h : QNorm w v t) (h0 : 0 < t.2.2) (hn : t.2.1 < B16 ^ 128) (hd : t.2.2 < B16 ^ 128) (h2 : 2 ≤ n) (h8 : n ≤ 8) (hp : p ≤ 256) :
  Calls Tryz.prog 67 #[v, .int .i64 (n : Int), .int .i64 (p : Int)] w fun e w' => ∃ v', e = .returned v' ∧ QNorm w' v' (grup t n p) ∧ Below w.heap.size w w' := by
 cases hs : t.1
 ·exact rAbovePos_any v t n p w h hs h0 hn hd h2 h8 hp
 ·exact rAboveNeg_any v t n p w h hs h0 hn hd h2 h8 hp
end Go.Proofs.YtheojajaefjecaaGreatDoor
