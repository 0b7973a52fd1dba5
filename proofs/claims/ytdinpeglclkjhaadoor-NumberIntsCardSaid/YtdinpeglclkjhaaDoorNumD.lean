/- Numbers of the program: FromInt, Add. -/
import Derived.Test.YtdinpeglclkjhaaDoorNumC
namespace Go.Proofs.YtdinpeglclkjhaaDoor
open Go.RowKit Dg

theorem nFromInt_ret {W : World} {B : Nat} {x y z : Value} {tm : Array Value} {R : Ending → World → Prop} (h2 : tm[2]?.getD undef = .pointer (some ⟨B, 0, none⟩)) (hV : Var3 W B x y z) (hR : R (.returned (.agg #[x, y, z])) W) :
    bodyPost Tryd.prog Tryd.f22 R .ret { tmps := tm, defers := [] } W := by
  obtain ⟨c0, c1, c2, _, _, _⟩ := hV.cells
  exact bodyPost_ret (v := .agg #[x, y, z]) (by simp [results, Tryd.results22, go_sem, h2, c0, c1, c2]) rfl hR
theorem nAdd_ret {W : World} {B : Nat} {x y z ev : Value} {tm : Array Value} {R : Ending → World → Prop} (h2 : tm[4]?.getD undef = .pointer (some ⟨B, 0, none⟩)) (h3 : tm[5]?.getD undef = ev) (hV : Var3 W B x y z)
    (hR : R (.returned (.tuple #[.agg #[x, y, z], ev])) W) : bodyPost Tryd.prog Tryd.f26 R .ret { tmps := tm, defers := [] } W := by
  obtain ⟨c0, c1, c2, _, _, _⟩ := hV.cells
  exact bodyPost_ret (v := .tuple #[.agg #[x, y, z], ev]) (by simp [results, Tryd.results26, go_sem, h2, h3, c0, c1, c2]) rfl hR

theorem big_small {m d : Nat} (hm : m < W32 ^ 3) (hd : d < W32 ^ 3) : big m d = false := by
  unfold big
  have h : W32 ^ 3 ≤ W32 ^ 64 := Nat.pow_le_pow_right W32_pos (by omega)
  exact decide_eq_false (by omega)
theorem lt_64 {m : Nat} (h : m < 18446744073709551616) : m < W32 ^ 3 := Nat.lt_of_lt_of_le h (by decide)

set_option maxHeartbeats 2000000 in
set_option maxRecDepth 100000 in
theorem nFromInt_any (n : Int) (w : World) (hlo : -9223372036854775808 ≤ n) (hhi : n < 9223372036854775808) :
    Calls Tryd.prog 22 #[.int .i64 n] w fun e w' => ∃ v', e = .returned v' ∧ FNorm w' v' (decide (n < 0), n.natAbs, 0) ∧ Below w.heap.size w w' := by
  have hm : n.natAbs < W32 ^ 3 := lt_64 (by omega)
  have H1 := hid (fun W => FracFromInt_any n W hlo hhi)
  have H2 : Hid (∀ (W : World) (v : Value), FNorm W v (decide (n < 0), n.natAbs, 1) → Calls Tryd.prog 62 #[v] W fun e w' => Below W.heap.size W w' ∧ FRes w' e 0 (decide (n < 0), n.natAbs, 0)) := by
    refine hid fun W v hv => ?_
    have h := FracRat_open v _ W hv (lt_big hm (by omega)) (lt_big (a := 3) (show 1 < W32 ^ 3 by decide) (by omega))
    simp only at h
    rw [big_small hm (by decide), if_neg (by decide), show den0 1 = 0 from rfl] at h
    exact h
  clear hm hlo hhi
  obtain ⟨t, ht⟩ : ∃ t, t = (decide (n < 0), n.natAbs, 0) := ⟨_, rfl⟩
  rw [← ht] at H2 ⊢
  clear ht
  go_enter Tryd.func22, Tryd.ntmps22
  go_upto_region 1 with fail
  have hV0 := Var3.alloc w (x := .bool false) (y := .slice none 0 0) (z := .slice none 0 0) 24 trivial trivial trivial
  have hK0 := (Below.refl w.heap.size w).alloc (Nat.le_refl _) (.cells #[.bool false, .slice none 0 0, .slice none 0 0] 24)
  generalize w.alloc (.cells #[.bool false, .slice none 0 0, .slice none 0 0] 24) = W0 at *
  go_wp2_with fail
  refine (H1.out W0).mono ?_
  rintro e w1 ⟨v1, rfl, hF1, hB1⟩
  have hF1' : FNorm w1 v1 (decide (n < 0), n.natAbs, 1) := hF1
  clear hF1
  go_wp2_with fail
  refine (H2.out w1 v1 hF1').mono ?_
  rintro e w2 ⟨hB2, hR2⟩
  rcases hR2 with ⟨h0, _⟩ | ⟨_, sg, pa, ka, ca, pb, kb, cb, rfl, hF⟩
  · exact absurd rfl h0
  · have hal := (Below.refl w2.heap.size w2).alloc (Nat.le_refl _) (.cells #[.bool sg, .slice pa ka ca, .slice pb kb cb] 24)
    have hVX := Var3.alloc w2 (x := .bool sg) (y := .slice pa ka ca) (z := .slice pb kb cb) 24 trivial trivial trivial
    have hV2 := ((hV0.below hB1).below hB2).below hal
    have hK2 := (hK0.trans ((hB1.mono hK0.size).trans (hB2.mono (Nat.le_trans hK0.size hB1.size)))).trans (hal.mono (Nat.le_trans hK0.size (Nat.le_trans hB1.size hB2.size)))
    have HP := hid (And.intro (hF.out.below hal) (And.intro hV2 hK2))
    clear hV0 hK0 hF1' hB1 hB2 hal hF hV2 hK2
    go_upto_region 2 with fail
    generalize w2.alloc (.cells #[.bool sg, .slice pa ka ca, .slice pb kb cb] 24) = W3 at *
    generalize w2.heap.size = X at *
    obtain ⟨x0, x1, x2, _⟩ := id hVX.cells
    obtain ⟨y0, y1, y2, z0, z1, z2⟩ := HP.out.2.1.cells
    clear hVX
    go_wp2_with fail
    exact nFromInt_ret rfl (HP.out.2.1.store trivial trivial trivial) ⟨_, rfl, HP.out.1.store3 HP.out.2.1 _ _ _, below_set3 HP.out.2.2 (Nat.le_refl _)⟩

theorem enter103 (args : Array Value) (w : World) : (callFunc 103 args).run Tryd.prog w = .ok (.enter 103 args) w := call_enter Tryd.func103 (by kernel_rfl) rfl args w
theorem enterAdd (args : Array Value) (w : World) : (callFunc 67 args).run Tryd.prog w = .ok (.enter 67 args) w := call_enter Tryd.func67 (by kernel_rfl) rfl args w

set_option maxHeartbeats 4000000 in
set_option maxRecDepth 100000 in
theorem combine_any (g : FuncId) (v : Value) (s : Bool) (n d : Nat) (y : Value) (s' : Bool) (n' d' : Nat) (t : Bool × Nat × Nat) (w : World) (h : ARep w v s n d) (hy : ARep w y s' n' d') (ht : TabOk w)
    (hfn : ∀ args W, (callFunc g args).run Tryd.prog W = .ok (.enter g args) W)
    (hop : large n d = false → large n' d' = false → ∀ W v' u', TabOk W → FNorm W v' (frac s n (den1 d)) → FNorm W u' (frac s' n' (den1 d')) → Calls Tryd.prog g #[v', u'] W fun e w' => ∃ v'', e = .returned v'' ∧ FNorm w' v'' t ∧ Below W.heap.size W w')
    (hbt : large n d = false → large n' d' = false → t.2.1 < W32 ^ 1000000000 ∧ t.2.2 < W32 ^ 1000000000) :
    Calls Tryd.prog 66 #[v, y, .func (.func g) #[] #[]] w fun e w' => Below w.heap.size w w' ∧ FRes w' e (ncode n d n' d' 0 t) (outF t) := by
  have hA := hid h
  have hY := hid hy
  obtain ⟨vn, vd, rfl, ⟨p1, k1, c1, rfl, _⟩, ⟨p2, k2, c2, rfl, _⟩⟩ := h
  obtain ⟨un, ud, rfl, ⟨p3, k3, c3, rfl, _⟩, ⟨p4, k4, c4, rfl, _⟩⟩ := hy
  have HH := hid (And.intro ht (And.intro hfn (And.intro hop hbt)))
  clear ht hfn hop hbt
  obtain ⟨U, hU⟩ : ∃ U, U = ncode n d n' d' 0 t := ⟨_, rfl⟩
  rw [← hU]
  have HU := hid hU
  clear hU
  go_enter Tryd.func66, Tryd.ntmps66
  go_upto_region 1 with fail
  have hK := below_alloc4 w (.cells #[.bool s, .slice p1 k1 c1, .slice p2 k2 c2] 24) (.cells #[.bool s', .slice p3 k3 c3, .slice p4 k4 c4] 24) (.cells #[.func (.func g) #[] #[]] 69) (.cells #[.bool false, .slice none 0 0, .slice none 0 0] 24)
  have hVa := (((Var3.alloc w (x := .bool s) (y := .slice p1 k1 c1) (z := .slice p2 k2 c2) 24 trivial trivial trivial).below ((Below.refl _ _).alloc (Nat.le_refl _) (.cells #[.bool s', .slice p3 k3 c3, .slice p4 k4 c4] 24))).below ((Below.refl _ _).alloc (Nat.le_refl _) (.cells #[.func (.func g) #[] #[]] 69))).below ((Below.refl _ _).alloc (Nat.le_refl _) (.cells #[.bool false, .slice none 0 0, .slice none 0 0] 24))
  have hVb := ((Var3.alloc2 w (.cells #[.bool s, .slice p1 k1 c1, .slice p2 k2 c2] 24) (x := .bool s') (y := .slice p3 k3 c3) (z := .slice p4 k4 c4) 24 trivial trivial trivial).below ((Below.refl _ _).alloc (Nat.le_refl _) (.cells #[.func (.func g) #[] #[]] 69))).below ((Below.refl _ _).alloc (Nat.le_refl _) (.cells #[.bool false, .slice none 0 0, .slice none 0 0] 24))
  have hfc := (FCell.new3 w (.cells #[.bool s, .slice p1 k1 c1, .slice p2 k2 c2] 24) (.cells #[.bool s', .slice p3 k3 c3, .slice p4 k4 c4] 24) g #[] 69).below ((Below.refl _ _).alloc (Nat.le_refl _) (.cells #[.bool false, .slice none 0 0, .slice none 0 0] 24))
  have hVr := Var3.alloc4 w (.cells #[.bool s, .slice p1 k1 c1, .slice p2 k2 c2] 24) (.cells #[.bool s', .slice p3 k3 c3, .slice p4 k4 c4] 24) (.cells #[.func (.func g) #[] #[]] 69) (x := .bool false) (y := .slice none 0 0) (z := .slice none 0 0) 24 trivial trivial trivial
  generalize (((w.alloc (.cells #[.bool s, .slice p1 k1 c1, .slice p2 k2 c2] 24)).alloc (.cells #[.bool s', .slice p3 k3 c3, .slice p4 k4 c4] 24)).alloc (.cells #[.func (.func g) #[] #[]] 69)).alloc (.cells #[.bool false, .slice none 0 0, .slice none 0 0] 24) = W0 at *
  have HV : Hid (Var3 W0 (w.heap.size + 1 + 1 + 1) (.bool false) (.slice none 0 0) (.slice none 0 0) ∧ Below w.heap.size w W0) := hid ⟨hVr, hK⟩
  obtain ⟨x0, x1, x2, _⟩ := id hVa.cells
  obtain ⟨y0, y1, y2, _⟩ := id hVb.cells
  have hcall := hid (binary_any 103 #[.pointer (some ⟨w.heap.size + 1 + 1, 0, none⟩)] _ s n d _ s' n' d' 0 t W0 (hA.out.below hK) (hY.out.below hK) (HH.out.1.below hK) enter103
    (fun h1 h2 W v' u' hW hF hG => combine1_any g (w.heap.size + 1 + 1) v' u' _ _ t W (hfc.below hW) hF hG ((HH.out.1.below hK).below hW) HH.out.2.1 (HH.out.2.2.1 h1 h2)) (fun h1 h2 _ => HH.out.2.2.2 h1 h2))
  clear hVa hVb hVr hK hfc
  go_wp2_with fail
  refine hcall.out.mono ?_
  rintro e w3 ⟨hB3, hR3⟩
  have hV3 := HV.out.1.below hB3
  obtain ⟨z0, z1, z2, r0, r1, r2⟩ := id hV3.cells
  have HV3 := hid (And.intro hV3 (HV.out.2.trans (hB3.mono HV.out.2.size)))
  clear x0 x1 x2 y0 y1 y2 hcall HV hV3 hB3
  rw [← HU.out] at hR3
  rcases hR3 with ⟨hc, rfl⟩ | ⟨hc, sg', pa', ka', ca', pb', kb', cb', rfl, hF3⟩
  · unfold zeroF
    go_wp2_with fail
    exact combine_ret rfl rfl (HV3.out.1.store trivial trivial trivial) ⟨below_set3 HV3.out.2 (by show w.heap.size ≤ w.heap.size + 1 + 1 + 1; omega), .inl ⟨hc, rfl⟩⟩
  · subst hc
    go_wp2_with fail
    exact combine_ret rfl rfl (HV3.out.1.store trivial trivial trivial) ⟨below_set3 HV3.out.2 (by show w.heap.size ≤ w.heap.size + 1 + 1 + 1; omega), .inr ⟨rfl, _, _, _, _, _, _, _, rfl, hid (hF3.out.store3 HV3.out.1 _ _ _)⟩⟩

theorem lt_4m {x a : Nat} (h : x < W32 ^ a) (hab : a ≤ 4000000) : x < W32 ^ 4000000 := by
  generalize 4000000 = b at *
  exact Nat.lt_of_lt_of_le h (Nat.pow_le_pow_right W32_pos hab)
theorem large_bd {n d : Nat} (h : large n d = false) : n / Nat.gcd n (den1 d) < W32 ^ 64 ∧ den1 d / Nat.gcd n (den1 d) < W32 ^ 64 := by
  unfold large at h
  rw [Bool.or_eq_false_iff] at h
  have h2 := h.2
  unfold big at h2
  have := of_decide_eq_false h2
  constructor <;> omega
theorem gcd_den_pos (n d : Nat) : 0 < den1 d / Nat.gcd n (den1 d) :=
  Nat.div_pos (Nat.le_of_dvd (den1_pos d) (Nat.gcd_dvd_right _ _)) (Nat.gcd_pos_of_pos_right _ (den1_pos d))
theorem frac_bd {s : Bool} {n d a : Nat} (hn : n < W32 ^ a) (hd : d < W32 ^ a) (ha : a ≤ 1000000000) : (frac s n d).2.1 < W32 ^ 1000000000 ∧ (frac s n d).2.2 < W32 ^ 1000000000 :=
  ⟨div_9 ha hn _, div_9 ha hd _⟩
theorem fadd_bd {a b : Bool × Nat × Nat} (h1 : a.2.1 < W32 ^ 64) (h2 : a.2.2 < W32 ^ 64) (h3 : b.2.1 < W32 ^ 64) (h4 : b.2.2 < W32 ^ 64) : (fadd a b).2.1 < W32 ^ 1000000000 ∧ (fadd a b).2.2 < W32 ^ 1000000000 := by
  have hx : a.2.1 * b.2.2 < W32 ^ 128 := lt_mul h1 h4 (by omega)
  have hy : b.2.1 * a.2.2 < W32 ^ 128 := lt_mul h3 h2 (by omega)
  have hd : a.2.2 * b.2.2 < W32 ^ 129 := lt_pow (lt_mul (c := 128) h2 h4 (by omega)) (by omega)
  unfold fadd
  split
  · exact frac_bd (a := 129) (lt_add hx hy (by omega)) hd (by omega)
  · split
    · exact frac_bd (a := 129) (lt_pow (Nat.lt_of_le_of_lt (Nat.sub_le _ _) hy) (by omega)) hd (by omega)
    · exact frac_bd (a := 129) (lt_pow (Nat.lt_of_le_of_lt (Nat.sub_le _ _) hx) (by omega)) hd (by omega)

set_option maxHeartbeats 2000000 in
set_option maxRecDepth 100000 in
theorem nAdd_any (v : Value) (s : Bool) (n d : Nat) (y : Value) (s' : Bool) (n' d' : Nat) (w : World) (h : ARep w v s n d) (hy : ARep w y s' n' d') (ht : TabOk w) :
    Calls Tryd.prog 26 #[v, y] w fun e w' => Below w.heap.size w w' ∧ FRes w' e (ncode n d n' d' 0 (fadd (frac s n (den1 d)) (frac s' n' (den1 d')))) (outF (fadd (frac s n (den1 d)) (frac s' n' (den1 d')))) := by
  have hA := hid h
  have hY := hid hy
  obtain ⟨vn, vd, rfl, ⟨p1, k1, c1, rfl, _⟩, ⟨p2, k2, c2, rfl, _⟩⟩ := h
  obtain ⟨un, ud, rfl, ⟨p3, k3, c3, rfl, _⟩, ⟨p4, k4, c4, rfl, _⟩⟩ := hy
  have hcall : Hid (∀ W, ARep W (.agg #[.bool s, .slice p1 k1 c1, .slice p2 k2 c2]) s n d → ARep W (.agg #[.bool s', .slice p3 k3 c3, .slice p4 k4 c4]) s' n' d' → TabOk W →
      Calls Tryd.prog 66 #[.agg #[.bool s, .slice p1 k1 c1, .slice p2 k2 c2], .agg #[.bool s', .slice p3 k3 c3, .slice p4 k4 c4], .func (.func 67) #[] #[]] W fun e w' => Below W.heap.size W w' ∧ FRes w' e (ncode n d n' d' 0 (fadd (frac s n (den1 d)) (frac s' n' (den1 d')))) (outF (fadd (frac s n (den1 d)) (frac s' n' (den1 d'))))) :=
    hid fun W h1 h2 h3 => combine_any _ _ s n d _ s' n' d' _ W h1 h2 h3 enterAdd
      (fun hL hL' W' v' u' hT hF hG => FracAdd_any v' u' _ _ _ _ _ _ W' hF hG (lt_4m (large_bd hL).1 (by omega)) (lt_4m (large_bd hL).2 (by omega)) (lt_4m (large_bd hL').1 (by omega)) (lt_4m (large_bd hL').2 (by omega)) (gcd_den_pos n d) (gcd_den_pos n' d') hT)
      (fun hL hL' => fadd_bd (large_bd hL).1 (large_bd hL).2 (large_bd hL').1 (large_bd hL').2)
  obtain ⟨U, hU⟩ : ∃ U, U = ncode n d n' d' 0 (fadd (frac s n (den1 d)) (frac s' n' (den1 d'))) := ⟨_, rfl⟩
  obtain ⟨T, hT⟩ : ∃ T, T = outF (fadd (frac s n (den1 d)) (frac s' n' (den1 d'))) := ⟨_, rfl⟩
  rw [← hU, ← hT] at hcall ⊢
  clear hU hT
  have HT := hid ht
  clear ht
  go_enter Tryd.func26, Tryd.ntmps26
  go_upto_region 1 with fail
  have hK := below_alloc3 w (.cells #[.bool s, .slice p1 k1 c1, .slice p2 k2 c2] 24) (.cells #[.bool s', .slice p3 k3 c3, .slice p4 k4 c4] 24) (.cells #[.bool false, .slice none 0 0, .slice none 0 0] 24)
  have hVa := ((Var3.alloc w (x := .bool s) (y := .slice p1 k1 c1) (z := .slice p2 k2 c2) 24 trivial trivial trivial).below ((Below.refl _ _).alloc (Nat.le_refl _) (.cells #[.bool s', .slice p3 k3 c3, .slice p4 k4 c4] 24))).below ((Below.refl _ _).alloc (Nat.le_refl _) (.cells #[.bool false, .slice none 0 0, .slice none 0 0] 24))
  have hVb := (Var3.alloc2 w (.cells #[.bool s, .slice p1 k1 c1, .slice p2 k2 c2] 24) (x := .bool s') (y := .slice p3 k3 c3) (z := .slice p4 k4 c4) 24 trivial trivial trivial).below ((Below.refl _ _).alloc (Nat.le_refl _) (.cells #[.bool false, .slice none 0 0, .slice none 0 0] 24))
  have hVr := Var3.alloc3 w (.cells #[.bool s, .slice p1 k1 c1, .slice p2 k2 c2] 24) (.cells #[.bool s', .slice p3 k3 c3, .slice p4 k4 c4] 24) (x := .bool false) (y := .slice none 0 0) (z := .slice none 0 0) 24 trivial trivial trivial
  generalize ((w.alloc (.cells #[.bool s, .slice p1 k1 c1, .slice p2 k2 c2] 24)).alloc (.cells #[.bool s', .slice p3 k3 c3, .slice p4 k4 c4] 24)).alloc (.cells #[.bool false, .slice none 0 0, .slice none 0 0] 24) = W0 at *
  have HV : Hid (Var3 W0 (w.heap.size + 1 + 1) (.bool false) (.slice none 0 0) (.slice none 0 0) ∧ Below w.heap.size w W0) := hid ⟨hVr, hK⟩
  obtain ⟨x0, x1, x2, _⟩ := id hVa.cells
  obtain ⟨y0, y1, y2, _⟩ := id hVb.cells
  have hcl := hid (hcall.out W0 (hA.out.below hK) (hY.out.below hK) (HT.out.below hK))
  clear hVa hVb hVr hK hcall
  go_wp2_with fail
  refine hcl.out.mono ?_
  rintro e w3 ⟨hB3, hR3⟩
  have hV3 := HV.out.1.below hB3
  obtain ⟨z0, z1, z2, r0, r1, r2⟩ := id hV3.cells
  have HV3 := hid (And.intro hV3 (HV.out.2.trans (hB3.mono HV.out.2.size)))
  clear x0 x1 x2 y0 y1 y2 hcl HV hV3 hB3
  rcases hR3 with ⟨hc, rfl⟩ | ⟨hc, sg', pa', ka', ca', pb', kb', cb', rfl, hF3⟩
  · unfold zeroF
    go_wp2_with fail
    exact nAdd_ret rfl rfl (HV3.out.1.store trivial trivial trivial) ⟨below_set3 HV3.out.2 (by show w.heap.size ≤ w.heap.size + 1 + 1; omega), .inl ⟨hc, rfl⟩⟩
  · subst hc
    go_wp2_with fail
    exact nAdd_ret rfl rfl (HV3.out.1.store trivial trivial trivial) ⟨below_set3 HV3.out.2 (by show w.heap.size ≤ w.heap.size + 1 + 1; omega), .inr ⟨rfl, _, _, _, _, _, _, _, rfl, hid (hF3.out.store3 HV3.out.1 _ _ _)⟩⟩
end Go.Proofs.YtdinpeglclkjhaaDoor
