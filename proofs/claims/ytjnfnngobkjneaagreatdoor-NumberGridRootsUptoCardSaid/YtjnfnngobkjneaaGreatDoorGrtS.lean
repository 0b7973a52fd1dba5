/- Roots on a grid of numbers, in the program: the calls themselves. -/
import Derived.Test.YtjnfnngobkjneaaGreatDoorGrtR
namespace Go.Proofs.YtjnfnngobkjneaaGreatDoor
open Go.RowKit Dg Rt

theorem below_alloc5 (w : World) (a b c d e : Obj) : Below w.heap.size w (((((w.alloc a).alloc b).alloc c).alloc d).alloc e) :=
  (below_alloc4 w a b c d).alloc (below_alloc4 w a b c d).size e
theorem PCell.new3 (w : World) (o o' : Obj) (p : Int) (t : Nat) : PCell (((w.alloc o).alloc o').alloc (.cells #[.int .i64 p] t)) (w.heap.size + 1 + 1) p := by
  have h := PCell.new ((w.alloc o).alloc o') p t
  rwa [World.size_alloc, World.size_alloc] at h
theorem FCell.new4 (w : World) (o o' o'' : Obj) (g : FuncId) (cap : Array Value) (t : Nat) : FCell ((((w.alloc o).alloc o').alloc o'').alloc (.cells #[.func (.func g) #[] cap] t)) (w.heap.size + 1 + 1 + 1) g cap := by
  have h := FCell.new (((w.alloc o).alloc o').alloc o'') g cap t
  rwa [World.size_alloc, World.size_alloc, World.size_alloc] at h
theorem Var3.alloc5 (w : World) (o o' o'' o3 : Obj) {x y z : Value} (t : Nat) (hx : NotInt x) (hy : NotInt y) (hz : NotInt z) : Var3 (((((w.alloc o).alloc o').alloc o'').alloc o3).alloc (.cells #[x, y, z] t)) (w.heap.size + 1 + 1 + 1 + 1) x y z := by
  have h := Var3.alloc ((((w.alloc o).alloc o').alloc o'').alloc o3) (x := x) (y := y) (z := z) t hx hy hz
  rwa [World.size_alloc, World.size_alloc, World.size_alloc, World.size_alloc] at h
theorem roundRoot_ret {W : World} {B : Nat} {x y z ev : Value} {tm : Array Value} {R : Ending → World → Prop} (h2 : tm[8]?.getD undef = .pointer (some ⟨B, 0, none⟩)) (h3 : tm[9]?.getD undef = ev) (hV : Var3 W B x y z)
    (hR : R (.returned (.tuple #[.agg #[x, y, z], ev])) W) : bodyPost Tryz.prog Tryz.f21 R .ret { tmps := tm, defers := [] } W := by
  obtain ⟨c0, c1, c2, _, _, _⟩ := hV.cells
  exact bodyPost_ret (v := .tuple #[.agg #[x, y, z], ev]) (by simp [results, Tryz.results21, go_sem, h2, h3, c0, c1, c2]) rfl hR

set_option maxHeartbeats 4000000 in
set_option maxRecDepth 100000 in
theorem roundRoot_any (g : FuncId) (v : Value) (s : Bool) (n d : Nat) (q p : Int) (tr : Bool × Nat × Nat) (w : World) (h : ARep w v s n d) (ht : TabOk w)
    (hfn : ∀ args W, (callFunc g args).run Tryz.prog W = .ok (.enter g args) W)
    (hop : large n d = false → gcode (frac s n (den1 d)) q p = 0 → ∀ W v', TabOk W → FNorm W v' (frac s n (den1 d)) → Calls Tryz.prog g #[v', .int .i64 q, .int .i64 p] W fun e w' => ∃ v'', e = .returned v'' ∧ FNorm w' v'' tr ∧ Below W.heap.size W w')
    (hbt : large n d = false → gcode (frac s n (den1 d)) q p = 0 → tr.2.1 < W32 ^ 1000000000 ∧ tr.2.2 < W32 ^ 1000000000) :
    Calls Tryz.prog 21 #[v, .int .i64 q, .int .i64 p, .func (.func g) #[] #[]] w fun e w' => Below w.heap.size w w' ∧ FRes w' e (ucode n d (gcode (frac s n (den1 d)) q p) tr) (outF tr) := by
  have hA := hid h
  obtain ⟨vn, vd, rfl, ⟨p1, k1, c1, rfl, _⟩, ⟨p2, k2, c2, rfl, _⟩⟩ := h
  have HH := hid (And.intro ht (And.intro hfn (And.intro hop hbt)))
  clear ht hfn hop hbt
  obtain ⟨U, hU⟩ : ∃ U, U = ucode n d (gcode (frac s n (den1 d)) q p) tr := ⟨_, rfl⟩
  rw [← hU]
  have HU := hid hU
  clear hU
  go_enter Tryz.func21, Tryz.ntmps21
  go_upto_region 1 with fail
  have hK := below_alloc5 w (.cells #[.bool s, .slice p1 k1 c1, .slice p2 k2 c2] 24) (.cells #[.int .i64 q] 3) (.cells #[.int .i64 p] 3) (.cells #[.func (.func g) #[] #[]] 46) (.cells #[.bool false, .slice none 0 0, .slice none 0 0] 24)
  have hVa := ((((Var3.alloc w (x := .bool s) (y := .slice p1 k1 c1) (z := .slice p2 k2 c2) 24 trivial trivial trivial).below ((Below.refl _ _).alloc (Nat.le_refl _) (.cells #[.int .i64 q] 3))).below ((Below.refl _ _).alloc (Nat.le_refl _) (.cells #[.int .i64 p] 3))).below ((Below.refl _ _).alloc (Nat.le_refl _) (.cells #[.func (.func g) #[] #[]] 46))).below ((Below.refl _ _).alloc (Nat.le_refl _) (.cells #[.bool false, .slice none 0 0, .slice none 0 0] 24))
  have hnc := (((PCell.new2 w (.cells #[.bool s, .slice p1 k1 c1, .slice p2 k2 c2] 24) q 3).below ((Below.refl _ _).alloc (Nat.le_refl _) (.cells #[.int .i64 p] 3))).below ((Below.refl _ _).alloc (Nat.le_refl _) (.cells #[.func (.func g) #[] #[]] 46))).below ((Below.refl _ _).alloc (Nat.le_refl _) (.cells #[.bool false, .slice none 0 0, .slice none 0 0] 24))
  have hpc := ((PCell.new3 w (.cells #[.bool s, .slice p1 k1 c1, .slice p2 k2 c2] 24) (.cells #[.int .i64 q] 3) p 3).below ((Below.refl _ _).alloc (Nat.le_refl _) (.cells #[.func (.func g) #[] #[]] 46))).below ((Below.refl _ _).alloc (Nat.le_refl _) (.cells #[.bool false, .slice none 0 0, .slice none 0 0] 24))
  have hfc := (FCell.new4 w (.cells #[.bool s, .slice p1 k1 c1, .slice p2 k2 c2] 24) (.cells #[.int .i64 q] 3) (.cells #[.int .i64 p] 3) g #[] 46).below ((Below.refl _ _).alloc (Nat.le_refl _) (.cells #[.bool false, .slice none 0 0, .slice none 0 0] 24))
  have hVr := Var3.alloc5 w (.cells #[.bool s, .slice p1 k1 c1, .slice p2 k2 c2] 24) (.cells #[.int .i64 q] 3) (.cells #[.int .i64 p] 3) (.cells #[.func (.func g) #[] #[]] 46) (x := .bool false) (y := .slice none 0 0) (z := .slice none 0 0) 24 trivial trivial trivial
  generalize ((((w.alloc (.cells #[.bool s, .slice p1 k1 c1, .slice p2 k2 c2] 24)).alloc (.cells #[.int .i64 q] 3)).alloc (.cells #[.int .i64 p] 3)).alloc (.cells #[.func (.func g) #[] #[]] 46)).alloc (.cells #[.bool false, .slice none 0 0, .slice none 0 0] 24) = W0 at *
  have HV : Hid (Var3 W0 (w.heap.size + 1 + 1 + 1 + 1) (.bool false) (.slice none 0 0) (.slice none 0 0) ∧ Below w.heap.size w W0) := hid ⟨hVr, hK⟩
  obtain ⟨x0, x1, x2, _⟩ := id hVa.cells
  have hcall := hid (unary_any 53 #[.pointer (some ⟨w.heap.size + 1, 0, none⟩), .pointer (some ⟨w.heap.size + 1 + 1, 0, none⟩), .pointer (some ⟨w.heap.size + 1 + 1 + 1, 0, none⟩)] _ s n d (gcode (frac s n (den1 d)) q p) tr W0 (hA.out.below hK) (HH.out.1.below hK) enterRR1
    (fun W v' hW hL hF => roundRoot1_any g (w.heap.size + 1) (w.heap.size + 1 + 1) (w.heap.size + 1 + 1 + 1) v' _ tr q p W (hnc.below hW) (hpc.below hW) (hfc.below hW) hF (fun h => frac_zero_sign (den1_pos d) h) ((HH.out.1.below hK).below hW) HH.out.2.1 (HH.out.2.2.1 hL))
    (fun hL hc => HH.out.2.2.2 hL hc))
  clear hVa hVr hK hfc hpc hnc
  go_wp2_with fail
  refine hcall.out.mono ?_
  rintro e w3 ⟨hB3, hR3⟩
  have hV3 := HV.out.1.below hB3
  obtain ⟨z0, z1, z2, r0, r1, r2⟩ := id hV3.cells
  have HV3 := hid (And.intro hV3 (HV.out.2.trans (hB3.mono HV.out.2.size)))
  clear x0 x1 x2 hcall HV hV3 hB3
  rw [← HU.out] at hR3
  rcases hR3 with ⟨hc, rfl⟩ | ⟨hc, sg', pa', ka', ca', pb', kb', cb', rfl, hF3⟩
  · unfold zeroF
    go_wp2_with fail
    exact roundRoot_ret rfl rfl (HV3.out.1.store trivial trivial trivial) ⟨below_set3 HV3.out.2 (by show w.heap.size ≤ w.heap.size + 1 + 1 + 1 + 1; omega), .inl ⟨hc, rfl⟩⟩
  · subst hc
    go_wp2_with fail
    exact roundRoot_ret rfl rfl (HV3.out.1.store trivial trivial trivial) ⟨below_set3 HV3.out.2 (by show w.heap.size ≤ w.heap.size + 1 + 1 + 1 + 1; omega), .inr ⟨rfl, _, _, _, _, _, _, _, rfl, hid (hF3.out.store3 HV3.out.1 _ _ _)⟩⟩

theorem gcode_nat {t : Bool × Nat × Nat} {n p : Int} (h : gcode t n p = 0) : ∃ k m : Nat, n = k ∧ p = m ∧ 2 ≤ k ∧ k ≤ 8 ∧ m ≤ 256 := by
  unfold gcode at h
  split at h
  · rename_i hi
    obtain ⟨m, hm, hm2⟩ := inPrec_nat hi.2
    have h1 := hi.1
    unfold isIdx at h1
    rw [Bool.and_eq_true, decide_eq_true_eq, decide_eq_true_eq] at h1
    exact ⟨n.toNat, m, by omega, hm, by omega, by omega, hm2⟩
  · exact absurd h (by decide)
theorem nRootDown_ret {W : World} {B : Nat} {x y z ev : Value} {tm : Array Value} {R : Ending → World → Prop} (h2 : tm[6]?.getD undef = .pointer (some ⟨B, 0, none⟩)) (h3 : tm[7]?.getD undef = ev) (hV : Var3 W B x y z)
    (hR : R (.returned (.tuple #[.agg #[x, y, z], ev])) W) : bodyPost Tryz.prog Tryz.f6 R .ret { tmps := tm, defers := [] } W := by
  obtain ⟨c0, c1, c2, _, _, _⟩ := hV.cells
  exact bodyPost_ret (v := .tuple #[.agg #[x, y, z], ev]) (by simp [results, Tryz.results6, go_sem, h2, h3, c0, c1, c2]) rfl hR

set_option maxHeartbeats 2000000 in
set_option maxRecDepth 100000 in
theorem nRootDown_any (v : Value) (s : Bool) (n d : Nat) (q p : Int) (w : World) (h : ARep w v s n d) (ht : TabOk w) :
    Calls Tryz.prog 6 #[v, .int .i64 q, .int .i64 p] w fun e w' => Below w.heap.size w w' ∧ FRes w' e (ucode n d (gcode (frac s n (den1 d)) q p) (grdn (frac s n (den1 d)) q.toNat p.toNat)) (outF (grdn (frac s n (den1 d)) q.toNat p.toNat)) := by
  have hA := hid h
  obtain ⟨vn, vd, rfl, ⟨p1, k1, c1, rfl, _⟩, ⟨p2, k2, c2, rfl, _⟩⟩ := h
  have hcall : Hid (∀ W, ARep W (.agg #[.bool s, .slice p1 k1 c1, .slice p2 k2 c2]) s n d → TabOk W →
      Calls Tryz.prog 21 #[.agg #[.bool s, .slice p1 k1 c1, .slice p2 k2 c2], .int .i64 q, .int .i64 p, .func (.func 22) #[] #[]] W fun e w' => Below W.heap.size W w' ∧ FRes w' e (ucode n d (gcode (frac s n (den1 d)) q p) (grdn (frac s n (den1 d)) q.toNat p.toNat)) (outF (grdn (frac s n (den1 d)) q.toNat p.toNat))) :=
    hid fun W h1 h3 => roundRoot_any _ _ s n d q p _ W h1 h3 enterFRDown
      (fun hL hi W v' hT hF => by
        obtain ⟨k, m, rfl, rfl, h2, h8, hk⟩ := gcode_nat hi
        exact FracRootDown_any v' _ k m W hF (large_bd hL).1 (large_bd hL).2 (gcd_den_pos n d) h2 h8 hk hT)
      (fun hL hi => by
        obtain ⟨k, m, rfl, rfl, h2, h8, hk⟩ := gcode_nat hi
        exact grdn_bd (large_bd hL).1 h2 h8 hk)
  obtain ⟨U, hU⟩ : ∃ U, U = ucode n d (gcode (frac s n (den1 d)) q p) (grdn (frac s n (den1 d)) q.toNat p.toNat) := ⟨_, rfl⟩
  obtain ⟨T, hT⟩ : ∃ T, T = outF (grdn (frac s n (den1 d)) q.toNat p.toNat) := ⟨_, rfl⟩
  rw [← hU, ← hT] at hcall ⊢
  clear hU hT
  have HT := hid ht
  clear ht
  go_enter Tryz.func6, Tryz.ntmps6
  go_upto_region 1 with fail
  have hK := below_alloc2 w (.cells #[.bool s, .slice p1 k1 c1, .slice p2 k2 c2] 24) (.cells #[.bool false, .slice none 0 0, .slice none 0 0] 24)
  have hVa := (Var3.alloc w (x := .bool s) (y := .slice p1 k1 c1) (z := .slice p2 k2 c2) 24 trivial trivial trivial).below ((Below.refl _ _).alloc (Nat.le_refl _) (.cells #[.bool false, .slice none 0 0, .slice none 0 0] 24))
  have hVr := Var3.alloc2 w (.cells #[.bool s, .slice p1 k1 c1, .slice p2 k2 c2] 24) (x := .bool false) (y := .slice none 0 0) (z := .slice none 0 0) 24 trivial trivial trivial
  generalize (w.alloc (.cells #[.bool s, .slice p1 k1 c1, .slice p2 k2 c2] 24)).alloc (.cells #[.bool false, .slice none 0 0, .slice none 0 0] 24) = W0 at *
  have HV : Hid (Var3 W0 (w.heap.size + 1) (.bool false) (.slice none 0 0) (.slice none 0 0) ∧ Below w.heap.size w W0) := hid ⟨hVr, hK⟩
  obtain ⟨x0, x1, x2, _⟩ := id hVa.cells
  have hcl := hid (hcall.out W0 (hA.out.below hK) (HT.out.below hK))
  clear hVa hVr hK hcall
  go_wp2_with fail
  refine hcl.out.mono ?_
  rintro e w3 ⟨hB3, hR3⟩
  have hV3 := HV.out.1.below hB3
  obtain ⟨z0, z1, z2, r0, r1, r2⟩ := id hV3.cells
  have HV3 := hid (And.intro hV3 (HV.out.2.trans (hB3.mono HV.out.2.size)))
  clear x0 x1 x2 hcl HV hV3 hB3
  rcases hR3 with ⟨hc, rfl⟩ | ⟨hc, sg', pa', ka', ca', pb', kb', cb', rfl, hF3⟩
  · unfold zeroF
    go_wp2_with fail
    exact nRootDown_ret rfl rfl (HV3.out.1.store trivial trivial trivial) ⟨below_set3 HV3.out.2 (by omega), .inl ⟨hc, rfl⟩⟩
  · subst hc
    go_wp2_with fail
    exact nRootDown_ret rfl rfl (HV3.out.1.store trivial trivial trivial) ⟨below_set3 HV3.out.2 (by omega), .inr ⟨rfl, _, _, _, _, _, _, _, rfl, hid (hF3.out.store3 HV3.out.1 _ _ _)⟩⟩

theorem nRootUp_ret {W : World} {B : Nat} {x y z ev : Value} {tm : Array Value} {R : Ending → World → Prop} (h2 : tm[6]?.getD undef = .pointer (some ⟨B, 0, none⟩)) (h3 : tm[7]?.getD undef = ev) (hV : Var3 W B x y z)
    (hR : R (.returned (.tuple #[.agg #[x, y, z], ev])) W) : bodyPost Tryz.prog Tryz.f7 R .ret { tmps := tm, defers := [] } W := by
  obtain ⟨c0, c1, c2, _, _, _⟩ := hV.cells
  exact bodyPost_ret (v := .tuple #[.agg #[x, y, z], ev]) (by simp [results, Tryz.results7, go_sem, h2, h3, c0, c1, c2]) rfl hR

set_option maxHeartbeats 2000000 in
set_option maxRecDepth 100000 in
theorem nRootUp_any (v : Value) (s : Bool) (n d : Nat) (q p : Int) (w : World) (h : ARep w v s n d) (ht : TabOk w) :
    Calls Tryz.prog 7 #[v, .int .i64 q, .int .i64 p] w fun e w' => Below w.heap.size w w' ∧ FRes w' e (ucode n d (gcode (frac s n (den1 d)) q p) (grup (frac s n (den1 d)) q.toNat p.toNat)) (outF (grup (frac s n (den1 d)) q.toNat p.toNat)) := by
  have hA := hid h
  obtain ⟨vn, vd, rfl, ⟨p1, k1, c1, rfl, _⟩, ⟨p2, k2, c2, rfl, _⟩⟩ := h
  have hcall : Hid (∀ W, ARep W (.agg #[.bool s, .slice p1 k1 c1, .slice p2 k2 c2]) s n d → TabOk W →
      Calls Tryz.prog 21 #[.agg #[.bool s, .slice p1 k1 c1, .slice p2 k2 c2], .int .i64 q, .int .i64 p, .func (.func 23) #[] #[]] W fun e w' => Below W.heap.size W w' ∧ FRes w' e (ucode n d (gcode (frac s n (den1 d)) q p) (grup (frac s n (den1 d)) q.toNat p.toNat)) (outF (grup (frac s n (den1 d)) q.toNat p.toNat))) :=
    hid fun W h1 h3 => roundRoot_any _ _ s n d q p _ W h1 h3 enterFRUp
      (fun hL hi W v' hT hF => by
        obtain ⟨k, m, rfl, rfl, h2, h8, hk⟩ := gcode_nat hi
        exact FracRootUp_any v' _ k m W hF (large_bd hL).1 (large_bd hL).2 (gcd_den_pos n d) h2 h8 hk hT)
      (fun hL hi => by
        obtain ⟨k, m, rfl, rfl, h2, h8, hk⟩ := gcode_nat hi
        exact grup_bd (large_bd hL).1 h2 h8 hk)
  obtain ⟨U, hU⟩ : ∃ U, U = ucode n d (gcode (frac s n (den1 d)) q p) (grup (frac s n (den1 d)) q.toNat p.toNat) := ⟨_, rfl⟩
  obtain ⟨T, hT⟩ : ∃ T, T = outF (grup (frac s n (den1 d)) q.toNat p.toNat) := ⟨_, rfl⟩
  rw [← hU, ← hT] at hcall ⊢
  clear hU hT
  have HT := hid ht
  clear ht
  go_enter Tryz.func7, Tryz.ntmps7
  go_upto_region 1 with fail
  have hK := below_alloc2 w (.cells #[.bool s, .slice p1 k1 c1, .slice p2 k2 c2] 24) (.cells #[.bool false, .slice none 0 0, .slice none 0 0] 24)
  have hVa := (Var3.alloc w (x := .bool s) (y := .slice p1 k1 c1) (z := .slice p2 k2 c2) 24 trivial trivial trivial).below ((Below.refl _ _).alloc (Nat.le_refl _) (.cells #[.bool false, .slice none 0 0, .slice none 0 0] 24))
  have hVr := Var3.alloc2 w (.cells #[.bool s, .slice p1 k1 c1, .slice p2 k2 c2] 24) (x := .bool false) (y := .slice none 0 0) (z := .slice none 0 0) 24 trivial trivial trivial
  generalize (w.alloc (.cells #[.bool s, .slice p1 k1 c1, .slice p2 k2 c2] 24)).alloc (.cells #[.bool false, .slice none 0 0, .slice none 0 0] 24) = W0 at *
  have HV : Hid (Var3 W0 (w.heap.size + 1) (.bool false) (.slice none 0 0) (.slice none 0 0) ∧ Below w.heap.size w W0) := hid ⟨hVr, hK⟩
  obtain ⟨x0, x1, x2, _⟩ := id hVa.cells
  have hcl := hid (hcall.out W0 (hA.out.below hK) (HT.out.below hK))
  clear hVa hVr hK hcall
  go_wp2_with fail
  refine hcl.out.mono ?_
  rintro e w3 ⟨hB3, hR3⟩
  have hV3 := HV.out.1.below hB3
  obtain ⟨z0, z1, z2, r0, r1, r2⟩ := id hV3.cells
  have HV3 := hid (And.intro hV3 (HV.out.2.trans (hB3.mono HV.out.2.size)))
  clear x0 x1 x2 hcl HV hV3 hB3
  rcases hR3 with ⟨hc, rfl⟩ | ⟨hc, sg', pa', ka', ca', pb', kb', cb', rfl, hF3⟩
  · unfold zeroF
    go_wp2_with fail
    exact nRootUp_ret rfl rfl (HV3.out.1.store trivial trivial trivial) ⟨below_set3 HV3.out.2 (by omega), .inl ⟨hc, rfl⟩⟩
  · subst hc
    go_wp2_with fail
    exact nRootUp_ret rfl rfl (HV3.out.1.store trivial trivial trivial) ⟨below_set3 HV3.out.2 (by omega), .inr ⟨rfl, _, _, _, _, _, _, _, rfl, hid (hF3.out.store3 HV3.out.1 _ _ _)⟩⟩

end Go.Proofs.YtjnfnngobkjneaaGreatDoor
