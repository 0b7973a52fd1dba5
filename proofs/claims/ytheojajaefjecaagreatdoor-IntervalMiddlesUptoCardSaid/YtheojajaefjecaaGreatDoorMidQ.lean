/- Middle of numbers: of the program, and Half of the reference. -/
import Derived.Test.YtheojajaefjecaaGreatDoorRefY
set_option maxHeartbeats 4000000
set_option maxRecDepth 100000
namespace Go.Proofs.YtheojajaefjecaaGreatDoor
open Go.RowKit Dg
def fhalf (a b : Bool × Nat × Nat) : Bool × Nat × Nat := fmul (fadd a b) (finv (false, 2, 1))
theorem faddM_le (a b : Bool × Nat × Nat) : (fadd a b).2.1 ≤ a.2.1 * b.2.2 + b.2.1 * a.2.2 ∧ (fadd a b).2.2 ≤ a.2.2 * b.2.2 := by
 by_cases h : a.1 = b.1
 ·have e : fadd a b = _ := if_pos h
  rw [e]
  exact ⟨Nat.div_le_self _ _, Nat.div_le_self _ _⟩
 ·by_cases h2 : a.2.1 * b.2.2 < b.2.1 * a.2.2
  ·have e : fadd a b = _ := (if_neg h).trans (if_pos h2)
   rw [e]
   exact ⟨Nat.le_trans (Nat.div_le_self _ _) (Nat.le_trans (Nat.sub_le _ _) (Nat.le_add_left _ _)), Nat.div_le_self _ _⟩
  ·have e : fadd a b = _ := (if_neg h).trans (if_neg h2)
   rw [e]
   exact ⟨Nat.le_trans (Nat.div_le_self _ _) (Nat.le_trans (Nat.sub_le _ _) (Nat.le_add_right _ _)), Nat.div_le_self _ _⟩
theorem faddM_b {a b : Bool × Nat × Nat} (h1 : a.2.1 < W32 ^ 64) (h2 : a.2.2 < W32 ^ 64) (h3 : b.2.1 < W32 ^ 64) (h4 : b.2.2 < W32 ^ 64) : (fadd a b).2.1 < W32 ^ 130 ∧ (fadd a b).2.2 < W32 ^ 130 :=
 ⟨Nat.lt_of_le_of_lt (faddM_le a b).1 (lt_add (lt_mul (c := 128) h1 h4 (by omega)) (lt_mul (c := 128) h3 h2 (by omega)) (by omega)), Nat.lt_of_le_of_lt (faddM_le a b).2 (lt_mul h2 h4 (by omega))⟩
theorem twoM_W (k : Nat) (h : 1 ≤ k) : 2 < W32 ^ k := Nat.lt_of_lt_of_le (by decide : 2 < W32 ^ 1) (Nat.pow_le_pow_right W32_pos h)
theorem fhalf_bd {a b : Bool × Nat × Nat} (h1 : a.2.1 < W32 ^ 64) (h2 : a.2.2 < W32 ^ 64) (h3 : b.2.1 < W32 ^ 64) (h4 : b.2.2 < W32 ^ 64) : (fhalf a b).2.1 < W32 ^ 132 ∧ (fhalf a b).2.2 < W32 ^ 132 := by
 have h := faddM_b h1 h2 h3 h4
 refine ⟨Nat.lt_of_le_of_lt (Nat.div_le_self _ _) ?_, Nat.lt_of_le_of_lt (Nat.div_le_self _ _) ?_⟩
 ·exact lt_mul h.1 (show 1 < W32 ^ 1 by decide) (by omega)
 ·exact lt_mul h.2 (show 2 < W32 ^ 1 by decide) (by omega)
theorem ltM_W_B7 {x k A : Nat} (h : x < W32 ^ k) (hA : 2 * k ≤ A) : x < B16 ^ A := by
 rw [pow_two_k] at h
 exact Nat.lt_of_lt_of_le h (Nat.pow_le_pow_right B16_pos hA)
theorem IsFr.half {a b : Bool × Nat × Nat} (ha : 0 < a.2.2) (hb : 0 < b.2.2) : IsFr (fhalf a b) := IsFr.mul (IsFr.add ha hb).pos (show 0 < 2 by decide)
theorem Mid1_ret {W : World} {B : Nat} {x y z ev : Value} {tm : Array Value} {R : Ending → World → Prop} (h2 : tm[4]?.getD undef = .pointer (some ⟨B, 0, none⟩)) (h3 : tm[5]?.getD undef = ev) (hV : Var3 W B x y z)
  (hR : R (.returned (.tuple #[.agg #[x, y, z], ev])) W) : bodyPost Tryz.prog Tryz.f148 R .ret { tmps := tm, defers := [] } W := by
 obtain ⟨c0, c1, c2, _, _, _⟩ := hV.cells
 exact bodyPost_ret (v := .tuple #[.agg #[x, y, z], ev]) (by simp [results, Tryz.results148, go_sem, h2, h3, c0, c1, c2]) rfl hR
theorem Mid1_any (va vb : Value) (a b : Bool × Nat × Nat) (w : World) (ha : FNorm w va a) (hb : FNorm w vb b) (h1 : a.2.1 < W32 ^ 64) (h2 : a.2.2 < W32 ^ 64) (h3 : b.2.1 < W32 ^ 64) (h4 : b.2.2 < W32 ^ 64) (p1 : 0 < a.2.2) (p2 : 0 < b.2.2) (ht : TabOk w) (k1 : Nat.gcd a.2.1 a.2.2 = 1) (k2 : Nat.gcd b.2.1 b.2.2 = 1) :
  Calls Tryz.prog 148 #[va, vb] w fun e w' => Below w.heap.size w w' ∧ FRes w' e 0 (fhalf a b) := by
 have hbd := faddM_b h1 h2 h3 h4
 have HAd := hid (fun (W : World) (hW : Below w.heap.size w W) => fopen (t := fadd a b) (FracAdd_any va vb a.1 a.2.1 a.2.2 b.1 b.2.1 b.2.2 W (ha.below hW) (hb.below hW) (lt_4m h1 (by omega)) (lt_4m h2 (by omega)) (lt_4m h3 (by omega)) (lt_4m h4 (by omega)) p1 p2 (ht.below hW) k1 k2))
 have HFi := hid (fun (W : World) => fopen (t := (false, 2, 1)) (FracFromInt_any 2 W (by decide) (by decide)))
 have HDv : Hid (∀ (W : World) (v u : Value), Below w.heap.size w W → FNorm W v (fadd a b) → FNorm W u (false, 2, 1) → Calls Tryz.prog 150 #[v, u] W fun e w' => Below W.heap.size W w' ∧ FRes w' e 0 (fhalf a b)) :=
  hid fun W v u hW hv hu => FracDiv_any v u (fadd a b).1 (fadd a b).2.1 (fadd a b).2.2 false 2 1 W hv hu (lt_4m hbd.1 (by omega)) (lt_4m hbd.2 (by omega)) (lt_4m (twoM_W 1 (by omega)) (by omega)) (lt_4m (show 1 < W32 ^ 1 by decide) (by omega)) (IsFr.add p1 p2).pos (fun h => by omega) (ht.below hW)
 clear h1 h2 h3 h4 p1 p2 ht hbd k1 k2
 obtain ⟨vn1, vd1, rfl, ⟨p1, k1, c1, rfl, _⟩, ⟨p2, k2, c2, rfl, _⟩⟩ := ha
 obtain ⟨vn2, vd2, rfl, ⟨p3, k3, c3, rfl, _⟩, ⟨p4, k4, c4, rfl, _⟩⟩ := hb
 obtain ⟨s1, hs1⟩ : ∃ s, s = a.1 := ⟨_, rfl⟩
 obtain ⟨s2, hs2⟩ : ∃ s, s = b.1 := ⟨_, rfl⟩
 rw [← hs1, ← hs2] at HAd
 rw [← hs1, ← hs2]
 clear hs1 hs2
 obtain ⟨t, htt⟩ : ∃ t, t = fhalf a b := ⟨_, rfl⟩
 obtain ⟨u, huu⟩ : ∃ t, t = fadd a b := ⟨_, rfl⟩
 rw [← htt] at HDv ⊢
 rw [← huu] at HAd HDv
 clear htt huu
 go_enter Tryz.func148, Tryz.ntmps148
 go_upto_region 1 with fail
 have hVa : Var3 (w.alloc (.cells #[.bool s1, .slice p1 k1 c1, .slice p2 k2 c2] 55)) w.heap.size (.bool s1) (.slice p1 k1 c1) (.slice p2 k2 c2) := Var3.alloc w 55 trivial trivial trivial
 have hVb := Var3.alloc2 w (.cells #[.bool s1, .slice p1 k1 c1, .slice p2 k2 c2] 55) (x := .bool s2) (y := .slice p3 k3 c3) (z := .slice p4 k4 c4) 55 trivial trivial trivial
 have hVr := Var3.alloc3 w (.cells #[.bool s1, .slice p1 k1 c1, .slice p2 k2 c2] 55) (.cells #[.bool s2, .slice p3 k3 c3, .slice p4 k4 c4] 55) (x := .bool false) (y := .slice none 0 0) (z := .slice none 0 0) 55 trivial trivial trivial
 have hB0 := below_alloc3 w (.cells #[.bool s1, .slice p1 k1 c1, .slice p2 k2 c2] 55) (.cells #[.bool s2, .slice p3 k3 c3, .slice p4 k4 c4] 55) (.cells #[.bool false, .slice none 0 0, .slice none 0 0] 55)
 have hVa' := (hVa.below ((Below.refl _ _).alloc (Nat.le_refl _) (.cells #[.bool s2, .slice p3 k3 c3, .slice p4 k4 c4] 55))).below ((Below.refl _ _).alloc (Nat.le_refl _) (.cells #[.bool false, .slice none 0 0, .slice none 0 0] 55))
 have hVb' := hVb.below ((Below.refl _ _).alloc (Nat.le_refl _) (.cells #[.bool false, .slice none 0 0, .slice none 0 0] 55))
 clear hVa hVb
 generalize hW0 : ((w.alloc (.cells #[.bool s1, .slice p1 k1 c1, .slice p2 k2 c2] 55)).alloc (.cells #[.bool s2, .slice p3 k3 c3, .slice p4 k4 c4] 55)).alloc (.cells #[.bool false, .slice none 0 0, .slice none 0 0] 55) = W0 at *
 clear hW0
 have hn2 : w.heap.size + 1 + 1 ≤ W0.heap.size := by obtain ⟨_, h0, _⟩ := hVr; exact Nat.le_of_lt (Array.getElem?_eq_some_iff.1 h0).1
 have HV := hid (And.intro hVr hB0)
 have HB0 := hid hB0
 obtain ⟨x0, x1, x2, _⟩ := hVa'.cells
 obtain ⟨y0, y1, y2, _⟩ := hVb'.cells
 clear hVa' hVb' hVr hB0
 go_wp2_with fail
 refine (HAd.out _ HB0.out).mono ?_
 rintro e w1 ⟨sa, pa, ka, ca, pb, kb, cb, rfl, hF1, hst⟩
 have HV1 := hid (And.intro (HV.out.1.below hst) (HV.out.2.trans (hst.mono HV.out.2.size)))
 clear x0 x1 x2 y0 y1 y2 HV hst hn2
 go_wp2_with fail
 refine (HFi.out _).mono ?_
 rintro e w2 ⟨sb, pc, kc, cc, pd, kd, cd, rfl, hF2, hst⟩
 have HV2 := hid (And.intro (HV1.out.1.below hst) (HV1.out.2.trans (hst.mono HV1.out.2.size)))
 have hF3 := hid (hF1.out.below hst)
 clear HV1 hst hF1
 go_wp2_with fail
 refine (HDv.out _ _ _ HV2.out.2 hF3.out hF2.out).mono ?_
 rintro e w3 ⟨hst, hR⟩
 rcases hR with ⟨h0, _⟩ | ⟨_, sg, pe, ke, ce, pf, kf, cf, rfl, HF⟩
 ·exact absurd rfl h0
 have HV3 := hid (And.intro (HV2.out.1.below hst) (HV2.out.2.trans (hst.mono HV2.out.2.size)))
 clear HV2 hst hF2 hF3
 obtain ⟨x0, x1, x2, y0, y1, y2⟩ := HV3.out.1.cells
 go_wp2_with fail
 exact Mid1_ret rfl rfl (HV3.out.1.store trivial trivial trivial) ⟨below_set3 HV3.out.2 (by show w.heap.size ≤ w.heap.size + 1 + 1; omega), .inr ⟨rfl, _, _, _, _, _, _, _, rfl, hid (HF.out.store3 HV3.out.1 _ _ _)⟩⟩
theorem nMid_ret {W : World} {B : Nat} {x y z ev : Value} {tm : Array Value} {R : Ending → World → Prop} (h2 : tm[4]?.getD undef = .pointer (some ⟨B, 0, none⟩)) (h3 : tm[5]?.getD undef = ev) (hV : Var3 W B x y z)
  (hR : R (.returned (.tuple #[.agg #[x, y, z], ev])) W) : bodyPost Tryz.prog Tryz.f83 R .ret { tmps := tm, defers := [] } W := by
 obtain ⟨c0, c1, c2, _, _, _⟩ := hV.cells
 exact bodyPost_ret (v := .tuple #[.agg #[x, y, z], ev]) (by simp [results, Tryz.results83, go_sem, h2, h3, c0, c1, c2]) rfl hR
theorem enterMid (args : Array Value) (w : World) : (callFunc 148 args).run Tryz.prog w = .ok (.enter 148 args) w := call_enter Tryz.func148 (by kernel_rfl) rfl args w
theorem nMid_any (v : Value) (s : Bool) (n d : Nat) (y : Value) (s' : Bool) (n' d' : Nat) (w : World) (h : ARep w v s n d) (hy : ARep w y s' n' d') (ht : TabOk w) :
  Calls Tryz.prog 83 #[v, y] w fun e w' => Below w.heap.size w w' ∧ FRes w' e (ncode n d n' d' 0 (fhalf (frac s n (den1 d)) (frac s' n' (den1 d')))) (outF (fhalf (frac s n (den1 d)) (frac s' n' (den1 d')))) := by
 have hA := hid h
 have hY := hid hy
 obtain ⟨vn, vd, rfl, ⟨p1, k1, c1, rfl, _⟩, ⟨p2, k2, c2, rfl, _⟩⟩ := h
 obtain ⟨un, ud, rfl, ⟨p3, k3, c3, rfl, _⟩, ⟨p4, k4, c4, rfl, _⟩⟩ := hy
 have hcall : Hid (∀ W, ARep W (.agg #[.bool s, .slice p1 k1 c1, .slice p2 k2 c2]) s n d → ARep W (.agg #[.bool s', .slice p3 k3 c3, .slice p4 k4 c4]) s' n' d' → TabOk W →
   Calls Tryz.prog 147 #[.agg #[.bool s, .slice p1 k1 c1, .slice p2 k2 c2], .agg #[.bool s', .slice p3 k3 c3, .slice p4 k4 c4], .func (.func 148) #[] #[]] W fun e w' => Below W.heap.size W w' ∧ FRes w' e (ncode n d n' d' 0 (fhalf (frac s n (den1 d)) (frac s' n' (den1 d')))) (outF (fhalf (frac s n (den1 d)) (frac s' n' (den1 d'))))) :=
  hid fun W h1 h2 h3 => binary_any _ #[] _ s n d _ s' n' d' _ _ W h1 h2 h3 enterMid
   (fun hL hL' W' v' u' hW hF hG => Mid1_any v' u' _ _ W' hF hG (large_bd hL).1 (large_bd hL).2 (large_bd hL').1 (large_bd hL').2 (frac_pos (den1_pos _)) (frac_pos (den1_pos _)) (h3.below hW) (frac_gcd (den1_pos _)) (frac_gcd (den1_pos _)))
   (fun hL hL' _ => ⟨lt_big (fhalf_bd (large_bd hL).1 (large_bd hL).2 (large_bd hL').1 (large_bd hL').2).1 (by omega), lt_big (fhalf_bd (large_bd hL).1 (large_bd hL).2 (large_bd hL').1 (large_bd hL').2).2 (by omega)⟩)
 obtain ⟨U, hU⟩ : ∃ U, U = ncode n d n' d' 0 (fhalf (frac s n (den1 d)) (frac s' n' (den1 d'))) := ⟨_, rfl⟩
 obtain ⟨T, hT⟩ : ∃ T, T = outF (fhalf (frac s n (den1 d)) (frac s' n' (den1 d'))) := ⟨_, rfl⟩
 rw [← hU, ← hT] at hcall ⊢
 clear hU hT
 have HT := hid ht
 clear ht
 go_enter Tryz.func83, Tryz.ntmps83
 go_upto_region 1 with fail
 have hK := below_alloc3 w (.cells #[.bool s, .slice p1 k1 c1, .slice p2 k2 c2] 24) (.cells #[.bool s', .slice p3 k3 c3, .slice p4 k4 c4] 24) (.cells #[.bool false, .slice none 0 0, .slice none 0 0] 24)
 have hVa := ((Var3.alloc w (x := .bool s) (y := .slice p1 k1 c1) (z := .slice p2 k2 c2) 24 trivial trivial trivial).below ((Below.refl _ _).alloc (Nat.le_refl _) (.cells #[.bool s', .slice p3 k3 c3, .slice p4 k4 c4] 24))).below ((Below.refl _ _).alloc (Nat.le_refl _) (.cells #[.bool false, .slice none 0 0, .slice none 0 0] 24))
 have hVb := (Var3.alloc2 w (.cells #[.bool s, .slice p1 k1 c1, .slice p2 k2 c2] 24) (x := .bool s') (y := .slice p3 k3 c3) (z := .slice p4 k4 c4) 24 trivial trivial trivial).below ((Below.refl _ _).alloc (Nat.le_refl _) (.cells #[.bool false, .slice none 0 0, .slice none 0 0] 24))
 have hVr := Var3.alloc3 w (.cells #[.bool s, .slice p1 k1 c1, .slice p2 k2 c2] 24) (.cells #[.bool s', .slice p3 k3 c3, .slice p4 k4 c4] 24) (x := .bool false) (y := .slice none 0 0) (z := .slice none 0 0) 24 trivial trivial trivial
 generalize ((w.alloc (.cells #[.bool s, .slice p1 k1 c1, .slice p2 k2 c2] 24)).alloc (.cells #[.bool s', .slice p3 k3 c3, .slice p4 k4 c4] 24)).alloc (.cells #[.bool false, .slice none 0 0, .slice none 0 0] 24) = W0 at *
 have HV : Hid (Var3 W0 (w.heap.size + 1 + 1) (.bool false) (.slice none 0 0) (.slice none 0 0) ∧ Below w.heap.size w W0) := hid ⟨hVr, hK⟩
 obtain ⟨x0, x1, x2, _⟩ := id hVa.cells
 obtain ⟨y0, y1, y2, _⟩ := id hVb.cells
 have hcl := hid (hcall.out W0 (hA.out.below hK) (hY.out.below hK) (HT.out.below hK))
 clear hVa hVb hVr hK hcall
 go_wp2_with fail
 refine hcl.out.mono ?_
 rintro e w3 ⟨hB3, hR3⟩
 have hV3 := HV.out.1.below hB3
 obtain ⟨z0, z1, z2, r0, r1, r2⟩ := id hV3.cells
 have HV3 := hid (And.intro hV3 (HV.out.2.trans (hB3.mono HV.out.2.size)))
 clear x0 x1 x2 y0 y1 y2 hcl HV hV3 hB3
 rcases hR3 with ⟨hc, rfl⟩ | ⟨hc, sg', pa', ka', ca', pb', kb', cb', rfl, hF3⟩
 ·unfold zeroF
  go_wp2_with fail
  exact nMid_ret rfl rfl (HV3.out.1.store trivial trivial trivial) ⟨below_set3 HV3.out.2 (by show w.heap.size ≤ w.heap.size + 1 + 1; omega), .inl ⟨hc, rfl⟩⟩
 ·subst hc
  go_wp2_with fail
  exact nMid_ret rfl rfl (HV3.out.1.store trivial trivial trivial) ⟨below_set3 HV3.out.2 (by show w.heap.size ≤ w.heap.size + 1 + 1; omega), .inr ⟨rfl, _, _, _, _, _, _, _, rfl, hid (hF3.out.store3 HV3.out.1 _ _ _)⟩⟩
theorem Half_ret {W : World} {B : Nat} {x y z : Value} {tm : Array Value} {R : Ending → World → Prop} (h2 : tm[4]?.getD undef = .pointer (some ⟨B, 0, none⟩)) (hV : Var3 W B x y z) (hR : R (.returned (.agg #[x, y, z])) W) :
  bodyPost Tryz.prog Tryz.f94 R .ret { tmps := tm, defers := [] } W := by
 obtain ⟨c0, c1, c2, _, _, _⟩ := hV.cells
 exact bodyPost_ret (v := .agg #[x, y, z]) (by simp [results, Tryz.results94, go_sem, h2, c0, c1, c2]) rfl hR
theorem rHalf_any (va vb : Value) (a b : Bool × Nat × Nat) (w : World) (ha : QNorm w va a) (hb : QNorm w vb b) (h1 : a.2.1 < W32 ^ 64) (h2 : a.2.2 < W32 ^ 64) (h3 : b.2.1 < W32 ^ 64) (h4 : b.2.2 < W32 ^ 64) (p1 : 0 < a.2.2) (p2 : 0 < b.2.2) :
  Calls Tryz.prog 94 #[va, vb] w fun e w' => ∃ v', e = .returned v' ∧ QNorm w' v' (fhalf a b) ∧ Below w.heap.size w w' := by
 have hbd := faddM_b h1 h2 h3 h4
 obtain ⟨A, hA1, hA2⟩ : ∃ A : Nat, 260 ≤ A ∧ A ≤ 1000000 := ⟨260, by omega, by omega⟩
 have HAd := hid (fun (W : World) (hW : Below w.heap.size w W) => qopen (t := fadd a b) (rSum_any va vb a.1 a.2.1 a.2.2 b.1 b.2.1 b.2.2 A W (ha.below hW) (hb.below hW) (ltM_W_B7 h1 (by omega)) (ltM_W_B7 h2 (by omega)) (ltM_W_B7 h3 (by omega)) (ltM_W_B7 h4 (by omega)) hA2 p1 p2))
 have HFi := hid (fun (W : World) => qopen (t := (false, 2, 1)) (by have h := rInt_any 2 W (by decide) (by decide); rwa [show mkq (decide ((2 : Int) < 0)) (Int.natAbs 2) 1 = (false, 2, 1) by decide] at h))
 have HDv := hid (fun (W : World) (v u : Value) (hv : QNorm W v (fadd a b)) (hu : QNorm W u (false, 2, 1)) => qopen (t := fhalf a b) (rDiv_any v u (fadd a b) (false, 2, 1) A W hv hu (ltM_W_B7 hbd.1 (by omega)) (ltM_W_B7 hbd.2 (by omega)) (ltM_W_B7 (twoM_W 1 (by omega)) (by omega)) (ltM_W_B7 (show 1 < W32 ^ 1 by decide) (by omega)) hA2 (IsFr.add p1 p2).pos (show 0 < 1 by decide) (show 0 < 2 by decide)))
 clear h1 h2 h3 h4 p1 p2 hbd hA1 hA2
 obtain ⟨vn1, vd1, rfl, ⟨p1, k1, c1, rfl, _⟩, ⟨p2, k2, c2, rfl, _⟩⟩ := ha
 obtain ⟨vn2, vd2, rfl, ⟨p3, k3, c3, rfl, _⟩, ⟨p4, k4, c4, rfl, _⟩⟩ := hb
 obtain ⟨s1, hs1⟩ : ∃ s, s = a.1 := ⟨_, rfl⟩
 obtain ⟨s2, hs2⟩ : ∃ s, s = b.1 := ⟨_, rfl⟩
 rw [← hs1, ← hs2] at HAd
 rw [← hs1, ← hs2]
 clear hs1 hs2
 obtain ⟨t, htt⟩ : ∃ t, t = fhalf a b := ⟨_, rfl⟩
 obtain ⟨u, huu⟩ : ∃ t, t = fadd a b := ⟨_, rfl⟩
 rw [← htt] at HDv ⊢
 rw [← huu] at HAd HDv
 clear htt huu
 go_enter Tryz.func94, Tryz.ntmps94
 go_upto_region 1 with fail
 have hVa : Var3 (w.alloc (.cells #[.bool s1, .slice p1 k1 c1, .slice p2 k2 c2] 47)) w.heap.size (.bool s1) (.slice p1 k1 c1) (.slice p2 k2 c2) := Var3.alloc w 47 trivial trivial trivial
 have hVb := Var3.alloc2 w (.cells #[.bool s1, .slice p1 k1 c1, .slice p2 k2 c2] 47) (x := .bool s2) (y := .slice p3 k3 c3) (z := .slice p4 k4 c4) 47 trivial trivial trivial
 have hVr := Var3.alloc3 w (.cells #[.bool s1, .slice p1 k1 c1, .slice p2 k2 c2] 47) (.cells #[.bool s2, .slice p3 k3 c3, .slice p4 k4 c4] 47) (x := .bool false) (y := .slice none 0 0) (z := .slice none 0 0) 47 trivial trivial trivial
 have hB0 := below_alloc3 w (.cells #[.bool s1, .slice p1 k1 c1, .slice p2 k2 c2] 47) (.cells #[.bool s2, .slice p3 k3 c3, .slice p4 k4 c4] 47) (.cells #[.bool false, .slice none 0 0, .slice none 0 0] 47)
 have hVa' := (hVa.below ((Below.refl _ _).alloc (Nat.le_refl _) (.cells #[.bool s2, .slice p3 k3 c3, .slice p4 k4 c4] 47))).below ((Below.refl _ _).alloc (Nat.le_refl _) (.cells #[.bool false, .slice none 0 0, .slice none 0 0] 47))
 have hVb' := hVb.below ((Below.refl _ _).alloc (Nat.le_refl _) (.cells #[.bool false, .slice none 0 0, .slice none 0 0] 47))
 clear hVa hVb
 generalize hW0 : ((w.alloc (.cells #[.bool s1, .slice p1 k1 c1, .slice p2 k2 c2] 47)).alloc (.cells #[.bool s2, .slice p3 k3 c3, .slice p4 k4 c4] 47)).alloc (.cells #[.bool false, .slice none 0 0, .slice none 0 0] 47) = W0 at *
 clear hW0
 have hn2 : w.heap.size + 1 + 1 ≤ W0.heap.size := by obtain ⟨_, h0, _⟩ := hVr; exact Nat.le_of_lt (Array.getElem?_eq_some_iff.1 h0).1
 have HV := hid (And.intro hVr hB0)
 have HB0 := hid hB0
 obtain ⟨x0, x1, x2, _⟩ := hVa'.cells
 obtain ⟨y0, y1, y2, _⟩ := hVb'.cells
 clear hVa' hVb' hVr hB0
 go_wp2_with fail
 refine (HAd.out _ HB0.out).mono ?_
 rintro e w1 ⟨sa, pa, ka, ca, pb, kb, cb, rfl, hF1, hst⟩
 have HV1 := hid (And.intro (HV.out.1.below hst) (HV.out.2.trans (hst.mono HV.out.2.size)))
 clear x0 x1 x2 y0 y1 y2 HV hst hn2
 go_wp2_with fail
 refine (HFi.out _).mono ?_
 rintro e w2 ⟨sb, pc, kc, cc, pd, kd, cd, rfl, hF2, hst⟩
 have HV2 := hid (And.intro (HV1.out.1.below hst) (HV1.out.2.trans (hst.mono HV1.out.2.size)))
 have hF3 := hid (hF1.out.below hst)
 clear HV1 hst hF1
 go_wp2_with fail
 refine (HDv.out _ _ _ hF3.out hF2.out).mono ?_
 rintro e w3 ⟨sg, pe, ke, ce, pf, kf, cf, rfl, HF, hst⟩
 have HV3 := hid (And.intro (HV2.out.1.below hst) (HV2.out.2.trans (hst.mono HV2.out.2.size)))
 clear HV2 hst hF2 hF3
 obtain ⟨x0, x1, x2, y0, y1, y2⟩ := HV3.out.1.cells
 go_wp2_with fail
 exact Half_ret rfl (HV3.out.1.store trivial trivial trivial) ⟨_, rfl, HF.out.store3 HV3.out.1 _ _ _, below_set3 HV3.out.2 (by show w.heap.size ≤ w.heap.size + 1 + 1; omega)⟩
end Go.Proofs.YtheojajaefjecaaGreatDoor
