/- The law NumberMiddles, with Middle of the program and of the reference. -/
import Derived.Test.YtdinpeglclkjhaaDoorRefY
namespace Go.Proofs.YtdinpeglclkjhaaDoor
open Go.RowKit Dg

def fhalf (a b : Bool × Nat × Nat) : Bool × Nat × Nat := fmul (fadd a b) (finv (false, 2, 1))
theorem fadd_le (a b : Bool × Nat × Nat) : (fadd a b).2.1 ≤ a.2.1 * b.2.2 + b.2.1 * a.2.2 ∧ (fadd a b).2.2 ≤ a.2.2 * b.2.2 := by
  by_cases h : a.1 = b.1
  · have e : fadd a b = _ := if_pos h
    rw [e]
    exact ⟨Nat.div_le_self _ _, Nat.div_le_self _ _⟩
  · by_cases h2 : a.2.1 * b.2.2 < b.2.1 * a.2.2
    · have e : fadd a b = _ := (if_neg h).trans (if_pos h2)
      rw [e]
      exact ⟨Nat.le_trans (Nat.div_le_self _ _) (Nat.le_trans (Nat.sub_le _ _) (Nat.le_add_left _ _)), Nat.div_le_self _ _⟩
    · have e : fadd a b = _ := (if_neg h).trans (if_neg h2)
      rw [e]
      exact ⟨Nat.le_trans (Nat.div_le_self _ _) (Nat.le_trans (Nat.sub_le _ _) (Nat.le_add_right _ _)), Nat.div_le_self _ _⟩
theorem fadd_b {a b : Bool × Nat × Nat} (h1 : a.2.1 < W32 ^ 64) (h2 : a.2.2 < W32 ^ 64) (h3 : b.2.1 < W32 ^ 64) (h4 : b.2.2 < W32 ^ 64) : (fadd a b).2.1 < W32 ^ 130 ∧ (fadd a b).2.2 < W32 ^ 130 :=
  ⟨Nat.lt_of_le_of_lt (fadd_le a b).1 (lt_add (lt_mul (c := 128) h1 h4 (by omega)) (lt_mul (c := 128) h3 h2 (by omega)) (by omega)), Nat.lt_of_le_of_lt (fadd_le a b).2 (lt_mul h2 h4 (by omega))⟩
theorem two_W (k : Nat) (h : 1 ≤ k) : 2 < W32 ^ k := Nat.lt_of_lt_of_le (by decide : 2 < W32 ^ 1) (Nat.pow_le_pow_right W32_pos h)
theorem fhalf_bd {a b : Bool × Nat × Nat} (h1 : a.2.1 < W32 ^ 64) (h2 : a.2.2 < W32 ^ 64) (h3 : b.2.1 < W32 ^ 64) (h4 : b.2.2 < W32 ^ 64) : (fhalf a b).2.1 < W32 ^ 132 ∧ (fhalf a b).2.2 < W32 ^ 132 := by
  have h := fadd_b h1 h2 h3 h4
  refine ⟨Nat.lt_of_le_of_lt (Nat.div_le_self _ _) ?_, Nat.lt_of_le_of_lt (Nat.div_le_self _ _) ?_⟩
  · exact lt_mul h.1 (show 1 < W32 ^ 1 by decide) (by omega)
  · exact lt_mul h.2 (show 2 < W32 ^ 1 by decide) (by omega)
theorem lt_W_B7 {x k A : Nat} (h : x < W32 ^ k) (hA : 2 * k ≤ A) : x < B16 ^ A := by
  rw [pow_two_k] at h
  exact Nat.lt_of_lt_of_le h (Nat.pow_le_pow_right B16_pos hA)
theorem IsFr.half {a b : Bool × Nat × Nat} (ha : 0 < a.2.2) (hb : 0 < b.2.2) : IsFr (fhalf a b) := IsFr.mul (IsFr.add ha hb).pos (show 0 < 2 by decide)

theorem Mid1_ret {W : World} {B : Nat} {x y z ev : Value} {tm : Array Value} {R : Ending → World → Prop} (h2 : tm[4]?.getD undef = .pointer (some ⟨B, 0, none⟩)) (h3 : tm[5]?.getD undef = ev) (hV : Var3 W B x y z)
    (hR : R (.returned (.tuple #[.agg #[x, y, z], ev])) W) : bodyPost Tryd.prog Tryd.f90 R .ret { tmps := tm, defers := [] } W := by
  obtain ⟨c0, c1, c2, _, _, _⟩ := hV.cells
  exact bodyPost_ret (v := .tuple #[.agg #[x, y, z], ev]) (by simp [results, Tryd.results90, go_sem, h2, h3, c0, c1, c2]) rfl hR

set_option maxHeartbeats 4000000 in
set_option maxRecDepth 100000 in
theorem Mid1_any (va vb : Value) (a b : Bool × Nat × Nat) (w : World) (ha : FNorm w va a) (hb : FNorm w vb b) (h1 : a.2.1 < W32 ^ 64) (h2 : a.2.2 < W32 ^ 64) (h3 : b.2.1 < W32 ^ 64) (h4 : b.2.2 < W32 ^ 64) (p1 : 0 < a.2.2) (p2 : 0 < b.2.2) (ht : TabOk w) :
    Calls Tryd.prog 90 #[va, vb] w fun e w' => Below w.heap.size w w' ∧ FRes w' e 0 (fhalf a b) := by
  have hbd := fadd_b h1 h2 h3 h4
  have HAd := hid (fun (W : World) (hW : Below w.heap.size w W) => fopen (t := fadd a b) (FracAdd_any va vb a.1 a.2.1 a.2.2 b.1 b.2.1 b.2.2 W (ha.below hW) (hb.below hW) (lt_4m h1 (by omega)) (lt_4m h2 (by omega)) (lt_4m h3 (by omega)) (lt_4m h4 (by omega)) p1 p2 (ht.below hW)))
  have HFi := hid (fun (W : World) => fopen (t := (false, 2, 1)) (FracFromInt_any 2 W (by decide) (by decide)))
  have HDv : Hid (∀ (W : World) (v u : Value), Below w.heap.size w W → FNorm W v (fadd a b) → FNorm W u (false, 2, 1) → Calls Tryd.prog 80 #[v, u] W fun e w' => Below W.heap.size W w' ∧ FRes w' e 0 (fhalf a b)) :=
    hid fun W v u hW hv hu => FracDiv_any v u (fadd a b).1 (fadd a b).2.1 (fadd a b).2.2 false 2 1 W hv hu (lt_4m hbd.1 (by omega)) (lt_4m hbd.2 (by omega)) (lt_4m (two_W 1 (by omega)) (by omega)) (lt_4m (show 1 < W32 ^ 1 by decide) (by omega)) (IsFr.add p1 p2).pos (fun h => by omega) (ht.below hW)
  clear h1 h2 h3 h4 p1 p2 ht hbd
  obtain ⟨vn1, vd1, rfl, ⟨p1, k1, c1, rfl, _⟩, ⟨p2, k2, c2, rfl, _⟩⟩ := ha
  obtain ⟨vn2, vd2, rfl, ⟨p3, k3, c3, rfl, _⟩, ⟨p4, k4, c4, rfl, _⟩⟩ := hb
  obtain ⟨s1, hs1⟩ : ∃ s, s = a.1 := ⟨_, rfl⟩
  obtain ⟨s2, hs2⟩ : ∃ s, s = b.1 := ⟨_, rfl⟩
  rw [← hs1, ← hs2] at HAd
  rw [← hs1, ← hs2]
  clear hs1 hs2
  obtain ⟨t, htt⟩ : ∃ t, t = fhalf a b := ⟨_, rfl⟩
  obtain ⟨u, huu⟩ : ∃ t, t = fadd a b := ⟨_, rfl⟩
  rw [← htt] at HDv ⊢
  rw [← huu] at HAd HDv
  clear htt huu
  go_enter Tryd.func90, Tryd.ntmps90
  go_upto_region 1 with fail
  have hVa : Var3 (w.alloc (.cells #[.bool s1, .slice p1 k1 c1, .slice p2 k2 c2] 54)) w.heap.size (.bool s1) (.slice p1 k1 c1) (.slice p2 k2 c2) := Var3.alloc w 54 trivial trivial trivial
  have hVb := Var3.alloc2 w (.cells #[.bool s1, .slice p1 k1 c1, .slice p2 k2 c2] 54) (x := .bool s2) (y := .slice p3 k3 c3) (z := .slice p4 k4 c4) 54 trivial trivial trivial
  have hVr := Var3.alloc3 w (.cells #[.bool s1, .slice p1 k1 c1, .slice p2 k2 c2] 54) (.cells #[.bool s2, .slice p3 k3 c3, .slice p4 k4 c4] 54) (x := .bool false) (y := .slice none 0 0) (z := .slice none 0 0) 54 trivial trivial trivial
  have hB0 := below_alloc3 w (.cells #[.bool s1, .slice p1 k1 c1, .slice p2 k2 c2] 54) (.cells #[.bool s2, .slice p3 k3 c3, .slice p4 k4 c4] 54) (.cells #[.bool false, .slice none 0 0, .slice none 0 0] 54)
  have hVa' := (hVa.below ((Below.refl _ _).alloc (Nat.le_refl _) (.cells #[.bool s2, .slice p3 k3 c3, .slice p4 k4 c4] 54))).below ((Below.refl _ _).alloc (Nat.le_refl _) (.cells #[.bool false, .slice none 0 0, .slice none 0 0] 54))
  have hVb' := hVb.below ((Below.refl _ _).alloc (Nat.le_refl _) (.cells #[.bool false, .slice none 0 0, .slice none 0 0] 54))
  clear hVa hVb
  generalize hW0 : ((w.alloc (.cells #[.bool s1, .slice p1 k1 c1, .slice p2 k2 c2] 54)).alloc (.cells #[.bool s2, .slice p3 k3 c3, .slice p4 k4 c4] 54)).alloc (.cells #[.bool false, .slice none 0 0, .slice none 0 0] 54) = W0 at *
  clear hW0
  have hn2 : w.heap.size + 1 + 1 ≤ W0.heap.size := by obtain ⟨_, h0, _⟩ := hVr; exact Nat.le_of_lt (Array.getElem?_eq_some_iff.1 h0).1
  have HV := hid (And.intro hVr hB0)
  have HB0 := hid hB0
  obtain ⟨x0, x1, x2, _⟩ := hVa'.cells
  obtain ⟨y0, y1, y2, _⟩ := hVb'.cells
  clear hVa' hVb' hVr hB0
  go_wp2_with fail
  refine (HAd.out _ HB0.out).mono ?_
  rintro e w1 ⟨sa, pa, ka, ca, pb, kb, cb, rfl, hF1, hst⟩
  have HV1 := hid (And.intro (HV.out.1.below hst) (HV.out.2.trans (hst.mono HV.out.2.size)))
  clear x0 x1 x2 y0 y1 y2 HV hst hn2
  go_wp2_with fail
  refine (HFi.out _).mono ?_
  rintro e w2 ⟨sb, pc, kc, cc, pd, kd, cd, rfl, hF2, hst⟩
  have HV2 := hid (And.intro (HV1.out.1.below hst) (HV1.out.2.trans (hst.mono HV1.out.2.size)))
  have hF3 := hid (hF1.out.below hst)
  clear HV1 hst hF1
  go_wp2_with fail
  refine (HDv.out _ _ _ HV2.out.2 hF3.out hF2.out).mono ?_
  rintro e w3 ⟨hst, hR⟩
  rcases hR with ⟨h0, _⟩ | ⟨_, sg, pe, ke, ce, pf, kf, cf, rfl, HF⟩
  · exact absurd rfl h0
  have HV3 := hid (And.intro (HV2.out.1.below hst) (HV2.out.2.trans (hst.mono HV2.out.2.size)))
  clear HV2 hst hF2 hF3
  obtain ⟨x0, x1, x2, y0, y1, y2⟩ := HV3.out.1.cells
  go_wp2_with fail
  exact Mid1_ret rfl rfl (HV3.out.1.store trivial trivial trivial) ⟨below_set3 HV3.out.2 (by show w.heap.size ≤ w.heap.size + 1 + 1; omega), .inr ⟨rfl, _, _, _, _, _, _, _, rfl, hid (HF.out.store3 HV3.out.1 _ _ _)⟩⟩


theorem nMid_ret {W : World} {B : Nat} {x y z ev : Value} {tm : Array Value} {R : Ending → World → Prop} (h2 : tm[4]?.getD undef = .pointer (some ⟨B, 0, none⟩)) (h3 : tm[5]?.getD undef = ev) (hV : Var3 W B x y z)
    (hR : R (.returned (.tuple #[.agg #[x, y, z], ev])) W) : bodyPost Tryd.prog Tryd.f49 R .ret { tmps := tm, defers := [] } W := by
  obtain ⟨c0, c1, c2, _, _, _⟩ := hV.cells
  exact bodyPost_ret (v := .tuple #[.agg #[x, y, z], ev]) (by simp [results, Tryd.results49, go_sem, h2, h3, c0, c1, c2]) rfl hR
theorem enterMid (args : Array Value) (w : World) : (callFunc 90 args).run Tryd.prog w = .ok (.enter 90 args) w := call_enter Tryd.func90 (by kernel_rfl) rfl args w

set_option maxHeartbeats 2000000 in
set_option maxRecDepth 100000 in
theorem nMid_any (v : Value) (s : Bool) (n d : Nat) (y : Value) (s' : Bool) (n' d' : Nat) (w : World) (h : ARep w v s n d) (hy : ARep w y s' n' d') (ht : TabOk w) :
    Calls Tryd.prog 49 #[v, y] w fun e w' => Below w.heap.size w w' ∧ FRes w' e (ncode n d n' d' 0 (fhalf (frac s n (den1 d)) (frac s' n' (den1 d')))) (outF (fhalf (frac s n (den1 d)) (frac s' n' (den1 d')))) := by
  have hA := hid h
  have hY := hid hy
  obtain ⟨vn, vd, rfl, ⟨p1, k1, c1, rfl, _⟩, ⟨p2, k2, c2, rfl, _⟩⟩ := h
  obtain ⟨un, ud, rfl, ⟨p3, k3, c3, rfl, _⟩, ⟨p4, k4, c4, rfl, _⟩⟩ := hy
  have hcall : Hid (∀ W, ARep W (.agg #[.bool s, .slice p1 k1 c1, .slice p2 k2 c2]) s n d → ARep W (.agg #[.bool s', .slice p3 k3 c3, .slice p4 k4 c4]) s' n' d' → TabOk W →
      Calls Tryd.prog 79 #[.agg #[.bool s, .slice p1 k1 c1, .slice p2 k2 c2], .agg #[.bool s', .slice p3 k3 c3, .slice p4 k4 c4], .func (.func 90) #[] #[]] W fun e w' => Below W.heap.size W w' ∧ FRes w' e (ncode n d n' d' 0 (fhalf (frac s n (den1 d)) (frac s' n' (den1 d')))) (outF (fhalf (frac s n (den1 d)) (frac s' n' (den1 d'))))) :=
    hid fun W h1 h2 h3 => binary_any _ #[] _ s n d _ s' n' d' _ _ W h1 h2 h3 enterMid
      (fun hL hL' W' v' u' hW hF hG => Mid1_any v' u' _ _ W' hF hG (large_bd hL).1 (large_bd hL).2 (large_bd hL').1 (large_bd hL').2 (frac_pos (den1_pos _)) (frac_pos (den1_pos _)) (h3.below hW))
      (fun hL hL' _ => ⟨lt_big (fhalf_bd (large_bd hL).1 (large_bd hL).2 (large_bd hL').1 (large_bd hL').2).1 (by omega), lt_big (fhalf_bd (large_bd hL).1 (large_bd hL).2 (large_bd hL').1 (large_bd hL').2).2 (by omega)⟩)
  obtain ⟨U, hU⟩ : ∃ U, U = ncode n d n' d' 0 (fhalf (frac s n (den1 d)) (frac s' n' (den1 d'))) := ⟨_, rfl⟩
  obtain ⟨T, hT⟩ : ∃ T, T = outF (fhalf (frac s n (den1 d)) (frac s' n' (den1 d'))) := ⟨_, rfl⟩
  rw [← hU, ← hT] at hcall ⊢
  clear hU hT
  have HT := hid ht
  clear ht
  go_enter Tryd.func49, Tryd.ntmps49
  go_upto_region 1 with fail
  have hK := below_alloc3 w (.cells #[.bool s, .slice p1 k1 c1, .slice p2 k2 c2] 24) (.cells #[.bool s', .slice p3 k3 c3, .slice p4 k4 c4] 24) (.cells #[.bool false, .slice none 0 0, .slice none 0 0] 24)
  have hVa := ((Var3.alloc w (x := .bool s) (y := .slice p1 k1 c1) (z := .slice p2 k2 c2) 24 trivial trivial trivial).below ((Below.refl _ _).alloc (Nat.le_refl _) (.cells #[.bool s', .slice p3 k3 c3, .slice p4 k4 c4] 24))).below ((Below.refl _ _).alloc (Nat.le_refl _) (.cells #[.bool false, .slice none 0 0, .slice none 0 0] 24))
  have hVb := (Var3.alloc2 w (.cells #[.bool s, .slice p1 k1 c1, .slice p2 k2 c2] 24) (x := .bool s') (y := .slice p3 k3 c3) (z := .slice p4 k4 c4) 24 trivial trivial trivial).below ((Below.refl _ _).alloc (Nat.le_refl _) (.cells #[.bool false, .slice none 0 0, .slice none 0 0] 24))
  have hVr := Var3.alloc3 w (.cells #[.bool s, .slice p1 k1 c1, .slice p2 k2 c2] 24) (.cells #[.bool s', .slice p3 k3 c3, .slice p4 k4 c4] 24) (x := .bool false) (y := .slice none 0 0) (z := .slice none 0 0) 24 trivial trivial trivial
  generalize ((w.alloc (.cells #[.bool s, .slice p1 k1 c1, .slice p2 k2 c2] 24)).alloc (.cells #[.bool s', .slice p3 k3 c3, .slice p4 k4 c4] 24)).alloc (.cells #[.bool false, .slice none 0 0, .slice none 0 0] 24) = W0 at *
  have HV : Hid (Var3 W0 (w.heap.size + 1 + 1) (.bool false) (.slice none 0 0) (.slice none 0 0) ∧ Below w.heap.size w W0) := hid ⟨hVr, hK⟩
  obtain ⟨x0, x1, x2, _⟩ := id hVa.cells
  obtain ⟨y0, y1, y2, _⟩ := id hVb.cells
  have hcl := hid (hcall.out W0 (hA.out.below hK) (hY.out.below hK) (HT.out.below hK))
  clear hVa hVb hVr hK hcall
  go_wp2_with fail
  refine hcl.out.mono ?_
  rintro e w3 ⟨hB3, hR3⟩
  have hV3 := HV.out.1.below hB3
  obtain ⟨z0, z1, z2, r0, r1, r2⟩ := id hV3.cells
  have HV3 := hid (And.intro hV3 (HV.out.2.trans (hB3.mono HV.out.2.size)))
  clear x0 x1 x2 y0 y1 y2 hcl HV hV3 hB3
  rcases hR3 with ⟨hc, rfl⟩ | ⟨hc, sg', pa', ka', ca', pb', kb', cb', rfl, hF3⟩
  · unfold zeroF
    go_wp2_with fail
    exact nMid_ret rfl rfl (HV3.out.1.store trivial trivial trivial) ⟨below_set3 HV3.out.2 (by show w.heap.size ≤ w.heap.size + 1 + 1; omega), .inl ⟨hc, rfl⟩⟩
  · subst hc
    go_wp2_with fail
    exact nMid_ret rfl rfl (HV3.out.1.store trivial trivial trivial) ⟨below_set3 HV3.out.2 (by show w.heap.size ≤ w.heap.size + 1 + 1; omega), .inr ⟨rfl, _, _, _, _, _, _, _, rfl, hid (hF3.out.store3 HV3.out.1 _ _ _)⟩⟩

def mic (a b : Bool × Nat × Nat) : Int := ncode a.2.1 a.2.2 b.2.1 b.2.2 0 (fhalf (fr a) (fr b))
def mit (a b : Bool × Nat × Nat) : Bool × Nat × Nat := resT (mic a b) (fhalf (fr a) (fr b))

theorem Half_ret {W : World} {B : Nat} {x y z : Value} {tm : Array Value} {R : Ending → World → Prop} (h2 : tm[4]?.getD undef = .pointer (some ⟨B, 0, none⟩)) (hV : Var3 W B x y z) (hR : R (.returned (.agg #[x, y, z])) W) :
    bodyPost Tryd.prog Tryd.f91 R .ret { tmps := tm, defers := [] } W := by
  obtain ⟨c0, c1, c2, _, _, _⟩ := hV.cells
  exact bodyPost_ret (v := .agg #[x, y, z]) (by simp [results, Tryd.results91, go_sem, h2, c0, c1, c2]) rfl hR
set_option maxHeartbeats 4000000 in
set_option maxRecDepth 100000 in
theorem rHalf_any (va vb : Value) (a b : Bool × Nat × Nat) (w : World) (ha : QNorm w va a) (hb : QNorm w vb b) (h1 : a.2.1 < W32 ^ 64) (h2 : a.2.2 < W32 ^ 64) (h3 : b.2.1 < W32 ^ 64) (h4 : b.2.2 < W32 ^ 64) (p1 : 0 < a.2.2) (p2 : 0 < b.2.2) :
    Calls Tryd.prog 91 #[va, vb] w fun e w' => ∃ v', e = .returned v' ∧ QNorm w' v' (fhalf a b) ∧ Below w.heap.size w w' := by
  have hbd := fadd_b h1 h2 h3 h4
  obtain ⟨A, hA1, hA2⟩ : ∃ A : Nat, 260 ≤ A ∧ A ≤ 1000000 := ⟨260, by omega, by omega⟩
  have HAd := hid (fun (W : World) (hW : Below w.heap.size w W) => qopen (t := fadd a b) (rSum_any va vb a.1 a.2.1 a.2.2 b.1 b.2.1 b.2.2 A W (ha.below hW) (hb.below hW) (lt_W_B7 h1 (by omega)) (lt_W_B7 h2 (by omega)) (lt_W_B7 h3 (by omega)) (lt_W_B7 h4 (by omega)) hA2 p1 p2))
  have HFi := hid (fun (W : World) => qopen (t := (false, 2, 1)) (by have h := rInt_any 2 W (by decide) (by decide); rwa [show mkq (decide ((2 : Int) < 0)) (Int.natAbs 2) 1 = (false, 2, 1) by decide] at h))
  have HDv := hid (fun (W : World) (v u : Value) (hv : QNorm W v (fadd a b)) (hu : QNorm W u (false, 2, 1)) => qopen (t := fhalf a b) (rDiv_any v u (fadd a b) (false, 2, 1) A W hv hu (lt_W_B7 hbd.1 (by omega)) (lt_W_B7 hbd.2 (by omega)) (lt_W_B7 (two_W 1 (by omega)) (by omega)) (lt_W_B7 (show 1 < W32 ^ 1 by decide) (by omega)) hA2 (IsFr.add p1 p2).pos (show 0 < 1 by decide) (show 0 < 2 by decide)))
  clear h1 h2 h3 h4 p1 p2 hbd hA1 hA2
  obtain ⟨vn1, vd1, rfl, ⟨p1, k1, c1, rfl, _⟩, ⟨p2, k2, c2, rfl, _⟩⟩ := ha
  obtain ⟨vn2, vd2, rfl, ⟨p3, k3, c3, rfl, _⟩, ⟨p4, k4, c4, rfl, _⟩⟩ := hb
  obtain ⟨s1, hs1⟩ : ∃ s, s = a.1 := ⟨_, rfl⟩
  obtain ⟨s2, hs2⟩ : ∃ s, s = b.1 := ⟨_, rfl⟩
  rw [← hs1, ← hs2] at HAd
  rw [← hs1, ← hs2]
  clear hs1 hs2
  obtain ⟨t, htt⟩ : ∃ t, t = fhalf a b := ⟨_, rfl⟩
  obtain ⟨u, huu⟩ : ∃ t, t = fadd a b := ⟨_, rfl⟩
  rw [← htt] at HDv ⊢
  rw [← huu] at HAd HDv
  clear htt huu
  go_enter Tryd.func91, Tryd.ntmps91
  go_upto_region 1 with fail
  have hVa : Var3 (w.alloc (.cells #[.bool s1, .slice p1 k1 c1, .slice p2 k2 c2] 34)) w.heap.size (.bool s1) (.slice p1 k1 c1) (.slice p2 k2 c2) := Var3.alloc w 34 trivial trivial trivial
  have hVb := Var3.alloc2 w (.cells #[.bool s1, .slice p1 k1 c1, .slice p2 k2 c2] 34) (x := .bool s2) (y := .slice p3 k3 c3) (z := .slice p4 k4 c4) 34 trivial trivial trivial
  have hVr := Var3.alloc3 w (.cells #[.bool s1, .slice p1 k1 c1, .slice p2 k2 c2] 34) (.cells #[.bool s2, .slice p3 k3 c3, .slice p4 k4 c4] 34) (x := .bool false) (y := .slice none 0 0) (z := .slice none 0 0) 34 trivial trivial trivial
  have hB0 := below_alloc3 w (.cells #[.bool s1, .slice p1 k1 c1, .slice p2 k2 c2] 34) (.cells #[.bool s2, .slice p3 k3 c3, .slice p4 k4 c4] 34) (.cells #[.bool false, .slice none 0 0, .slice none 0 0] 34)
  have hVa' := (hVa.below ((Below.refl _ _).alloc (Nat.le_refl _) (.cells #[.bool s2, .slice p3 k3 c3, .slice p4 k4 c4] 34))).below ((Below.refl _ _).alloc (Nat.le_refl _) (.cells #[.bool false, .slice none 0 0, .slice none 0 0] 34))
  have hVb' := hVb.below ((Below.refl _ _).alloc (Nat.le_refl _) (.cells #[.bool false, .slice none 0 0, .slice none 0 0] 34))
  clear hVa hVb
  generalize hW0 : ((w.alloc (.cells #[.bool s1, .slice p1 k1 c1, .slice p2 k2 c2] 34)).alloc (.cells #[.bool s2, .slice p3 k3 c3, .slice p4 k4 c4] 34)).alloc (.cells #[.bool false, .slice none 0 0, .slice none 0 0] 34) = W0 at *
  clear hW0
  have hn2 : w.heap.size + 1 + 1 ≤ W0.heap.size := by obtain ⟨_, h0, _⟩ := hVr; exact Nat.le_of_lt (Array.getElem?_eq_some_iff.1 h0).1
  have HV := hid (And.intro hVr hB0)
  have HB0 := hid hB0
  obtain ⟨x0, x1, x2, _⟩ := hVa'.cells
  obtain ⟨y0, y1, y2, _⟩ := hVb'.cells
  clear hVa' hVb' hVr hB0
  go_wp2_with fail
  refine (HAd.out _ HB0.out).mono ?_
  rintro e w1 ⟨sa, pa, ka, ca, pb, kb, cb, rfl, hF1, hst⟩
  have HV1 := hid (And.intro (HV.out.1.below hst) (HV.out.2.trans (hst.mono HV.out.2.size)))
  clear x0 x1 x2 y0 y1 y2 HV hst hn2
  go_wp2_with fail
  refine (HFi.out _).mono ?_
  rintro e w2 ⟨sb, pc, kc, cc, pd, kd, cd, rfl, hF2, hst⟩
  have HV2 := hid (And.intro (HV1.out.1.below hst) (HV1.out.2.trans (hst.mono HV1.out.2.size)))
  have hF3 := hid (hF1.out.below hst)
  clear HV1 hst hF1
  go_wp2_with fail
  refine (HDv.out _ _ _ hF3.out hF2.out).mono ?_
  rintro e w3 ⟨sg, pe, ke, ce, pf, kf, cf, rfl, HF, hst⟩
  have HV3 := hid (And.intro (HV2.out.1.below hst) (HV2.out.2.trans (hst.mono HV2.out.2.size)))
  clear HV2 hst hF2 hF3
  obtain ⟨x0, x1, x2, y0, y1, y2⟩ := HV3.out.1.cells
  go_wp2_with fail
  exact Half_ret rfl (HV3.out.1.store trivial trivial trivial) ⟨_, rfl, HF.out.store3 HV3.out.1 _ _ _, below_set3 HV3.out.2 (by show w.heap.size ≤ w.heap.size + 1 + 1; omega)⟩

theorem rMiddle_ret {W : World} {B : Nat} {x y z ev : Value} {tm : Array Value} {R : Ending → World → Prop} (h2 : tm[4]?.getD undef = .pointer (some ⟨B, 0, none⟩)) (h3 : tm[5]?.getD undef = ev) (hV : Var3 W B x y z)
    (hR : R (.returned (.tuple #[.agg #[x, y, z], ev])) W) : bodyPost Tryd.prog Tryd.f50 R .ret { tmps := tm, defers := [] } W := by
  obtain ⟨c0, c1, c2, _, _, _⟩ := hV.cells
  exact bodyPost_ret (v := .tuple #[.agg #[x, y, z], ev]) (by simp [results, Tryd.results50, go_sem, h2, h3, c0, c1, c2]) rfl hR

set_option maxHeartbeats 8000000 in
set_option maxRecDepth 100000 in
theorem rMiddle_u (vx vy : Value) (x y : Bool × Nat × Nat) (w : World) (hx : NRep w vx x) (hy : NRep w vy y) :
    Calls Tryd.prog 50 #[vx, vy] w fun e w' => Below w.heap.size w w' ∧ URF w' e (mic x y) (mit x y) := by
  have HX := hid hx
  have HY := hid hy
  obtain ⟨_, _, rfl, ⟨p1, k1, c1, rfl, _⟩, ⟨p2, k2, c2, rfl, _⟩⟩ := hx
  obtain ⟨_, _, rfl, ⟨p3, k3, c3, rfl, _⟩, ⟨p4, k4, c4, rfl, _⟩⟩ := hy
  obtain ⟨s1, hsx⟩ : ∃ s, s = x.1 := ⟨_, rfl⟩
  obtain ⟨s2, hsy⟩ : ∃ s, s = y.1 := ⟨_, rfl⟩
  rw [← hsx] at HX ⊢
  rw [← hsy] at HY ⊢
  clear hsx hsy
  obtain ⟨cc, hcc⟩ : ∃ c, c = mic x y := ⟨_, rfl⟩
  have htt : mit x y = resT cc (fhalf (fr x) (fr y)) := by rw [hcc]; rfl
  rw [htt, ← hcc]
  obtain ⟨rt, hrt⟩ : ∃ r, r = resT cc (fhalf (fr x) (fr y)) := ⟨_, rfl⟩
  rw [← hrt]
  have HC := hid (And.intro hcc hrt)
  clear hcc htt hrt
  go_enter Tryd.func50, Tryd.ntmps50
  go_upto_region 1 with fail
  have hVa : Var3 (w.alloc (.cells #[.bool s1, .slice p1 k1 c1, .slice p2 k2 c2] 24)) w.heap.size (.bool s1) (.slice p1 k1 c1) (.slice p2 k2 c2) := Var3.alloc w 24 trivial trivial trivial
  have hVb := Var3.alloc2 w (.cells #[.bool s1, .slice p1 k1 c1, .slice p2 k2 c2] 24) (x := .bool s2) (y := .slice p3 k3 c3) (z := .slice p4 k4 c4) 24 trivial trivial trivial
  have hVr := Var3.alloc3 w (.cells #[.bool s1, .slice p1 k1 c1, .slice p2 k2 c2] 24) (.cells #[.bool s2, .slice p3 k3 c3, .slice p4 k4 c4] 24) (x := .bool false) (y := .slice none 0 0) (z := .slice none 0 0) 24 trivial trivial trivial
  have hB0 := below_alloc3 w (.cells #[.bool s1, .slice p1 k1 c1, .slice p2 k2 c2] 24) (.cells #[.bool s2, .slice p3 k3 c3, .slice p4 k4 c4] 24) (.cells #[.bool false, .slice none 0 0, .slice none 0 0] 24)
  have hVa' := (hVa.below ((Below.refl _ _).alloc (Nat.le_refl _) (.cells #[.bool s2, .slice p3 k3 c3, .slice p4 k4 c4] 24))).below ((Below.refl _ _).alloc (Nat.le_refl _) (.cells #[.bool false, .slice none 0 0, .slice none 0 0] 24))
  have hVb' := hVb.below ((Below.refl _ _).alloc (Nat.le_refl _) (.cells #[.bool false, .slice none 0 0, .slice none 0 0] 24))
  clear hVa hVb
  generalize hW0 : ((w.alloc (.cells #[.bool s1, .slice p1 k1 c1, .slice p2 k2 c2] 24)).alloc (.cells #[.bool s2, .slice p3 k3 c3, .slice p4 k4 c4] 24)).alloc (.cells #[.bool false, .slice none 0 0, .slice none 0 0] 24) = W0 at *
  clear hW0
  have hn2 : w.heap.size + 1 + 1 ≤ W0.heap.size := by obtain ⟨_, h0, _⟩ := hVr; exact Nat.le_of_lt (Array.getElem?_eq_some_iff.1 h0).1
  have HV := hid (And.intro (And.intro hVa' (And.intro hVb' hVr)) hB0)
  replace HX := hid (HX.out.below hB0)
  replace HY := hid (HY.out.below hB0)
  obtain ⟨x0, x1, x2, _⟩ := hVa'.cells
  obtain ⟨y0, y1, y2, _⟩ := hVb'.cells
  clear hVa' hVb' hVr hB0
  go_wp2_with fail
  have hal := (Below.refl W0.heap.size W0).alloc (Nat.le_refl _) (.cells #[.bool s1, .slice p1 k1 c1, .slice p2 k2 c2, .bool s2, .slice p3 k3 c3, .slice p4 k4 c4] 24)
  have HA := hid (anyLarge_any W0.heap.size s1 s2 p1 p2 p3 p4 k1 k2 k3 k4 c1 c2 c3 c4 x y (W0.alloc (.cells #[.bool s1, .slice p1 k1 c1, .slice p2 k2 c2, .bool s2, .slice p3 k3 c3, .slice p4 k4 c4] 24)) (by rw [World.size_alloc]; omega) (HX.out.below hal) (HY.out.below hal) (by simp only [World.cell?, heap_alloc_new]; rfl) (by simp only [World.cell?, heap_alloc_new]; rfl) (by simp only [World.cell?, heap_alloc_new]; rfl) (by simp only [World.cell?, heap_alloc_new]; rfl) (by simp only [World.cell?, heap_alloc_new]; rfl) (by simp only [World.cell?, heap_alloc_new]; rfl))
  refine HA.out.mono ?_
  rintro e w1 ⟨rfl, hst⟩
  have hst2 := hal.trans (hst.mono hal.size)
  clear HA hst hal x0 x1 x2 y0 y1 y2
  replace HX := hid (HX.out.below hst2)
  replace HY := hid (HY.out.below hst2)
  have hn3 : w.heap.size + 1 + 1 ≤ w1.heap.size := Nat.le_trans hn2 hst2.size
  have HP : Hid ((Var3 w1 w.heap.size (.bool s1) (.slice p1 k1 c1) (.slice p2 k2 c2) ∧ Var3 w1 (w.heap.size + 1) (.bool s2) (.slice p3 k3 c3) (.slice p4 k4 c4) ∧ Var3 w1 (w.heap.size + 1 + 1) (.bool false) (.slice none 0 0) (.slice none 0 0)) ∧ Below w.heap.size w w1) :=
    hid ⟨⟨HV.out.1.1.below hst2, HV.out.1.2.1.below hst2, HV.out.1.2.2.below hst2⟩, HV.out.2.trans (hst2.mono HV.out.2.size)⟩
  clear HV hst2 hn2
  generalize W0.heap.size = BS at *
  cases hl : (large x.2.1 x.2.2 || large y.2.1 y.2.2)
  case true =>
    have hc := HC.out.1
    unfold mic at hc
    rw [ncode_one hl] at hc
    subst hc
    have hr : rt = (false, 0, 0) := HC.out.2.trans (if_neg (by decide))
    subst hr
    clear hl HC HX HY
    obtain ⟨x0, x1, x2, y0, y1, y2⟩ := HP.out.1.2.2.cells
    go_wp2_with fail
    refine rMiddle_ret rfl rfl (HP.out.1.2.2.store trivial trivial trivial) ⟨below_set3 HP.out.2 (by omega), ?_⟩
    exact ⟨_, _, _, _, _, _, _, rfl, hid ⟨_, _, rfl, Rep.nil, Rep.nil⟩⟩
  case false =>
    have hc := HC.out.1
    have hr := HC.out.2
    unfold mic at hc
    rw [ncode_ok hl, if_neg (by decide)] at hc
    obtain ⟨hl1, hl2⟩ := Bool.or_eq_false_iff.1 hl
    have hbx := fr_bd hl1
    have hby := fr_bd hl2
    have HO1 := hid (fun (W : World) (hW : Below w1.heap.size w1 W) => rOfF_any _ x W (HX.out.below hW) hl1)
    have HO2 := hid (fun (W : World) (hW : Below w1.heap.size w1 W) => rOfF_any _ y W (HY.out.below hW) hl2)
    have HOp := hid (fun (W : World) (v1 v2 : Value) (q1 : QNorm W v1 (fr x)) (q2 : QNorm W v2 (fr y)) => qopen (t := fhalf (fr x) (fr y)) (rHalf_any v1 v2 (fr x) (fr y) W q1 q2 hbx.1 hbx.2 hby.1 hby.2 (IsFr.fr x).pos (IsFr.fr y).pos))
    have hif : IsFr (fhalf (fr x) (fr y)) := IsFr.half (IsFr.fr x).pos (IsFr.fr y).pos
    have HDn := hid (fun (W : World) (v : Value) (q : QNorm W v (fhalf (fr x) (fr y))) => Done_any v (fhalf (fr x) (fr y)) W q hif.pos hif.zs)
    rw [← hc, ← hr] at HDn
    clear hc hr HC hl hl1 hl2 hbx hby hif
    obtain ⟨t, ht⟩ : ∃ t, t = fhalf (fr x) (fr y) := ⟨_, rfl⟩
    rw [← ht] at HOp HDn
    clear ht
    have HS : Hid (∀ w', Below (w.heap.size + 1 + 1) w1 w' → (w'.cell? ⟨w.heap.size, 0, none⟩ = some (.bool s1) ∧ w'.cell? ⟨w.heap.size, 1, none⟩ = some (.slice p1 k1 c1) ∧ w'.cell? ⟨w.heap.size, 2, none⟩ = some (.slice p2 k2 c2) ∧ w'.cell? ⟨w.heap.size + 1, 0, none⟩ = some (.bool s2) ∧ w'.cell? ⟨w.heap.size + 1, 1, none⟩ = some (.slice p3 k3 c3) ∧ w'.cell? ⟨w.heap.size + 1, 2, none⟩ = some (.slice p4 k4 c4) ∧ Hid (Below (w.heap.size + 1 + 1) w1 w'))) :=
      hid fun w' hb => ⟨(bcellN hb _ _ (by omega)).trans HP.out.1.1.cells.1, (bcellN hb _ _ (by omega)).trans HP.out.1.1.cells.2.1, (bcellN hb _ _ (by omega)).trans HP.out.1.1.cells.2.2.1, (bcellN hb _ _ (by omega)).trans HP.out.1.2.1.cells.1, (bcellN hb _ _ (by omega)).trans HP.out.1.2.1.cells.2.1, (bcellN hb _ _ (by omega)).trans HP.out.1.2.1.cells.2.2.1, hid hb⟩
    go_upto_region 3 with fail
    go_region_held3 (fun w' => w'.cell? ⟨w.heap.size, 0, none⟩ = some (.bool s1) ∧ w'.cell? ⟨w.heap.size, 1, none⟩ = some (.slice p1 k1 c1) ∧ w'.cell? ⟨w.heap.size, 2, none⟩ = some (.slice p2 k2 c2) ∧ w'.cell? ⟨w.heap.size + 1, 0, none⟩ = some (.bool s2) ∧ w'.cell? ⟨w.heap.size + 1, 1, none⟩ = some (.slice p3 k3 c3) ∧ w'.cell? ⟨w.heap.size + 1, 2, none⟩ = some (.slice p4 k4 c4) ∧ Hid (Below (w.heap.size + 1 + 1) w1 w'))
      (first | exact HS.out _ (Below.refl _ _).drew | (exact HS.out _ (by assumption)) | exact HS.out _ (below_set3 (by assumption) (Nat.le_refl _)))
      (first
        | (go_at_call_of 21 k1; refine (HO1.out _ (by first | assumption | exact (Below.refl _ _).drew)).mono ?_; rintro e wa ⟨s5, p5, k5, c5, p6, k6, c6, rfl, hQ1, hBa⟩; have hKa := held_any (by first | assumption | exact (Below.refl _ _).drew) hBa; have hKa2 := below_pre hKa hn3)
        | (go_at_call_of 21 k3; refine (HO2.out _ (by first | assumption | exact (Below.refl _ _).drew)).mono ?_; rintro e wb ⟨s7, p7, k7, c7, p8, k8, c8, rfl, hQ2, hBb⟩; have hKb := held_any (by first | assumption | exact (Below.refl _ _).drew) hBb; have hKb2 := below_pre hKb hn3)
        | (go_at_call 91; (first | refine (HOp.out _ _ _ (hQ1.out.below hBb) hQ2.out).mono ?_ | refine (HOp.out _ _ _ hQ1.out (hQ2.out.below hBa)).mono ?_); rintro e wc ⟨s9, p9, k9, c9, p10, k10, c10, rfl, hQ3, hBc⟩; have hKc := held_any (by first | assumption | exact (Below.refl _ _).drew) hBc; have hKc2 := below_pre hKc hn3)
        | (go_at_call 76; refine (HDn.out _ _ hQ3.out).mono ?_; rintro e wd ⟨hBd, sg, pa, ka, ca, pb, kb, cb, rfl, HF⟩; have hKd := held_any (by first | assumption | exact (Below.refl _ _).drew) hBd; have hKd2 := below_pre hKd hn3; obtain ⟨x0, x1, x2, y0, y1, y2⟩ := (HP.out.1.2.2.below hKd).cells))
    all_goals
      rename_i hHeld
      clear hHeld
      go_wp2_with fail
      exact rMiddle_ret rfl rfl ((HP.out.1.2.2.below hKd).store trivial trivial trivial) ⟨below_set3 (HP.out.2.trans (hKd.mono HP.out.2.size)) (by omega), ⟨_, _, _, _, _, _, _, rfl, hid (HF.out.store3 (HP.out.1.2.2.below hKd) _ _ _)⟩⟩

theorem res_ok {t : Bool × Nat × Nat} (h : IsFr t) (hb : big t.2.1 t.2.2 = false) : Canon (outF t).1 (outF t).2.1 (outF t).2.2 ∧ Few (outF t) := by
  obtain ⟨s, n, d, hd, rfl⟩ := h
  exact ⟨canon_out hd, few_out (big_lt hb).1 (big_lt hb).2⟩
theorem Is_same (v u : Value) (c : Int) (r : Bool × Nat × Nat) (w : World) (hv : FNorm w v r) (hu : FNorm w u r) (h0 : c = 0 → Canon r.1 r.2.1 r.2.2 ∧ Few r) (h1 : c ≠ 0 → r = (false, 0, 0)) :
    Calls Tryd.prog 19 #[v, .int .i64 c, u, .int .i64 c] w fun e w' => e = .returned (.bool true) ∧ Below w.heap.size w w' := by
  by_cases hc : c = 0
  · subst hc
    exact Is_ok v u r w hv hu (h0 rfl).1 (h0 rfl).2
  · have := h1 hc
    subst this
    exact Is_err v u c _ w hv hu hc
theorem resT_ok {c : Int} {t : Bool × Nat × Nat} (h : IsFr t) (hz : c = 0 → big t.2.1 t.2.2 = false) : c = 0 → Canon (resT c t).1 (resT c t).2.1 (resT c t).2.2 ∧ Few (resT c t) := by
  intro h0
  rw [resT, if_pos h0]
  exact res_ok h (hz h0)
theorem resT_no {c : Int} {t : Bool × Nat × Nat} : c ≠ 0 → resT c t = (false, 0, 0) := fun h => if_neg h



set_option maxHeartbeats 16000000 in
set_option maxRecDepth 100000 in
theorem NumberMiddles_any (vx vy : Value) (x y : Bool × Nat × Nat) (w : World) (hx : NRep w vx x) (hy : NRep w vy y) (ht : TabOk w) :
    Calls Tryd.prog 11 #[vx, vy] w fun e w' => e = .returned (.bool true) ∧ Below w.heap.size w w' := by
  have HX := hid hx
  have HY := hid hy
  obtain ⟨_, _, rfl, ⟨pa, ka, ca, rfl, _⟩, ⟨pb, kb, cb, rfl, _⟩⟩ := hx
  obtain ⟨_, _, rfl, ⟨pc, kc, cc, rfl, _⟩, ⟨pd, kd, cd, rfl, _⟩⟩ := hy
  obtain ⟨sx, hsx⟩ : ∃ s, s = x.1 := ⟨_, rfl⟩
  obtain ⟨sy, hsy⟩ : ∃ s, s = y.1 := ⟨_, rfl⟩
  have hal := below_alloc2 w (.cells #[.bool sx, .slice pa ka ca, .slice pb kb cb] 24) (.cells #[.bool sy, .slice pc kc cc, .slice pd kd cd] 24)
  have hV := (Var3.alloc w (x := .bool sx) (y := .slice pa ka ca) (z := .slice pb kb cb) 24 trivial trivial trivial).below ((Below.refl _ _).alloc (Nat.le_refl _) (.cells #[.bool sy, .slice pc kc cc, .slice pd kd cd] 24))
  have hV2 := Var3.alloc2 w (.cells #[.bool sx, .slice pa ka ca, .slice pb kb cb] 24) (x := .bool sy) (y := .slice pc kc cc) (z := .slice pd kd cd) 24 trivial trivial trivial
  rw [← hsx] at HX ⊢
  rw [← hsy] at HY ⊢
  clear hsx hsy
  have HX0 := hid (HX.out.below hal)
  have HY0 := hid (HY.out.below hal)
  have HT0 := hid (ht.below hal)
  have HB := hid hal
  have HVx := hid hV
  have HVy := hid hV2
  clear HX HY ht hal hV hV2
  obtain ⟨g1, hg1⟩ : ∃ g, g = mic x y := ⟨_, rfl⟩
  obtain ⟨r1, hr1⟩ : ∃ g, g = mit x y := ⟨_, rfl⟩
  have HI1 := hid (fun (W : World) (v u : Value) (hv : FNorm W v r1) (hu : FNorm W u r1) => Is_same v u g1 r1 W hv hu (by rw [hr1, hg1]; exact resT_ok (IsFr.half (IsFr.fr x).pos (IsFr.fr y).pos) (fun h => (ncode_zero h).2.2.2)) (by rw [hr1, hg1]; exact resT_no))
  have HN1 := hid (fun (W : World) (v u : Value) (h : NRep W v x) (hy : NRep W u y) (ht : TabOk W) => (nMid_any v _ _ _ u _ _ _ W h hy ht).mono (R' := fun e w' => Below W.heap.size W w' ∧ URF w' e g1 r1) fun _ _ hR => ⟨hR.1, by rw [hg1, hr1]; exact hR.2.uniF⟩)
  have HR1 := hid (fun (W : World) (v u : Value) (h : NRep W v x) (hy : NRep W u y) => rMiddle_u v u x y W h hy)
  rw [← hg1, ← hr1] at HR1
  clear hg1 hr1
  go_enter Tryd.func11, Tryd.ntmps11
  go_upto_region 1 with fail
  generalize (w.alloc (.cells #[.bool sx, .slice pa ka ca, .slice pb kb cb] 24)).alloc (.cells #[.bool sy, .slice pc kc cc, .slice pd kd cd] 24) = W0 at *
  obtain ⟨a0, a1, a2, _⟩ := HVx.out.cells
  obtain ⟨b0, b1, b2, _⟩ := HVy.out.cells
  go_wp2_with fail
  refine (HN1.out _ _ _ HX0.out HY0.out HT0.out).mono ?_
  rintro e w1 ⟨hB1, sn1, pn1, kn1, cn1, qn1, ln1, dn1, rfl, hF⟩
  clear a0 a1 a2 b0 b1 b2
  go_upto_region 2 with fail
  have hal := (Below.refl w1.heap.size w1).alloc (Nat.le_refl _) (.cells #[.bool sn1, .slice pn1 kn1 cn1, .slice qn1 ln1 dn1] 24)
  have hV := Var3.alloc w1 (x := .bool sn1) (y := .slice pn1 kn1 cn1) (z := .slice qn1 ln1 dn1) 24 trivial trivial trivial
  have hst := held_any hB1 hal
  have HF1 := hid (hF.out.below hal)
  clear hB1 hal hF
  generalize w1.alloc (.cells #[.bool sn1, .slice pn1 kn1 cn1, .slice qn1 ln1 dn1] 24) = V1 at *
  generalize w1.heap.size = B1 at *
  replace HVx := hid (HVx.out.below hst)
  replace HVy := hid (HVy.out.below hst)
  replace HX0 := hid (HX0.out.below hst)
  replace HY0 := hid (HY0.out.below hst)
  replace HT0 := hid (HT0.out.below hst)
  replace HB := hid (HB.out.trans (hst.mono HB.out.size))
  have HV1 := hid hV
  clear hst hV
  obtain ⟨a0, a1, a2, _⟩ := HVx.out.cells
  obtain ⟨b0, b1, b2, _⟩ := HVy.out.cells
  go_wp2_with fail
  refine (HR1.out _ _ _ HX0.out HY0.out).mono ?_
  rintro e w2 ⟨hB1, sn2, pn2, kn2, cn2, qn2, ln2, dn2, rfl, hF⟩
  clear a0 a1 a2 b0 b1 b2
  go_upto_region 3 with fail
  have hal := (Below.refl w2.heap.size w2).alloc (Nat.le_refl _) (.cells #[.bool sn2, .slice pn2 kn2 cn2, .slice qn2 ln2 dn2] 24)
  have hV := Var3.alloc w2 (x := .bool sn2) (y := .slice pn2 kn2 cn2) (z := .slice qn2 ln2 dn2) 24 trivial trivial trivial
  have hst := held_any hB1 hal
  have HF2 := hid (hF.out.below hal)
  clear hB1 hal hF
  generalize w2.alloc (.cells #[.bool sn2, .slice pn2 kn2 cn2, .slice qn2 ln2 dn2] 24) = V2 at *
  generalize w2.heap.size = B2 at *
  replace HVx := hid (HVx.out.below hst)
  replace HVy := hid (HVy.out.below hst)
  replace HX0 := hid (HX0.out.below hst)
  replace HY0 := hid (HY0.out.below hst)
  replace HT0 := hid (HT0.out.below hst)
  replace HV1 := hid (HV1.out.below hst)
  replace HF1 := hid (HF1.out.below hst)
  replace HB := hid (HB.out.trans (hst.mono HB.out.size))
  have HV2 := hid hV
  clear hst hV
  obtain ⟨a0, a1, a2, _⟩ := HV1.out.cells
  obtain ⟨b0, b1, b2, _⟩ := HV2.out.cells
  go_wp2_with fail
  refine (HI1.out _ _ _ HF1.out HF2.out).mono ?_
  rintro e w6 ⟨rfl, hst⟩
  clear a0 a1 a2 b0 b1 b2
  replace HT0 := hid (HT0.out.below hst)
  replace HB := hid (HB.out.trans (hst.mono HB.out.size))
  clear hst
  have HAw := hid (awake_any w6 HT0.out)
  go_wp2_with fail
  refine HAw.out.mono ?_
  rintro e w7 ⟨rfl, hst⟩
  have HZ := hid (HB.out.trans (hst.mono HB.out.size))
  clear hst
  go_wp2_with fail
  go_ret
  exact ⟨rfl, HZ.out⟩
end Go.Proofs.YtdinpeglclkjhaaDoor
