/- Numbers of the program: the closures of change, combine, binary. -/
import Derived.Test.YtdinpeglclkjhaaDoorNumA
namespace Go.Proofs.YtdinpeglclkjhaaDoor
open Go.RowKit Dg

theorem change1_ret {W : World} {B : Nat} {x y z ev : Value} {tm : Array Value} {R : Ending → World → Prop} (h2 : tm[3]?.getD undef = .pointer (some ⟨B, 0, none⟩)) (h3 : tm[4]?.getD undef = ev) (hV : Var3 W B x y z)
    (hR : R (.returned (.tuple #[.agg #[x, y, z], ev])) W) : bodyPost Tryd.prog Tryd.f95 R .ret { tmps := tm, defers := [] } W := by
  obtain ⟨c0, c1, c2, _, _, _⟩ := hV.cells
  exact bodyPost_ret (v := .tuple #[.agg #[x, y, z], ev]) (by simp [results, Tryd.results95, go_sem, h2, h3, c0, c1, c2]) rfl hR
theorem combine1_ret {W : World} {B : Nat} {x y z ev : Value} {tm : Array Value} {R : Ending → World → Prop} (h2 : tm[5]?.getD undef = .pointer (some ⟨B, 0, none⟩)) (h3 : tm[6]?.getD undef = ev) (hV : Var3 W B x y z)
    (hR : R (.returned (.tuple #[.agg #[x, y, z], ev])) W) : bodyPost Tryd.prog Tryd.f103 R .ret { tmps := tm, defers := [] } W := by
  obtain ⟨c0, c1, c2, _, _, _⟩ := hV.cells
  exact bodyPost_ret (v := .tuple #[.agg #[x, y, z], ev]) (by simp [results, Tryd.results103, go_sem, h2, h3, c0, c1, c2]) rfl hR
theorem binary1_ret {W : World} {B : Nat} {x y z ev : Value} {tm : Array Value} {R : Ending → World → Prop} (h2 : tm[4]?.getD undef = .pointer (some ⟨B, 0, none⟩)) (h3 : tm[5]?.getD undef = ev) (hV : Var3 W B x y z)
    (hR : R (.returned (.tuple #[.agg #[x, y, z], ev])) W) : bodyPost Tryd.prog Tryd.f115 R .ret { tmps := tm, defers := [] } W := by
  obtain ⟨c0, c1, c2, _, _, _⟩ := hV.cells
  exact bodyPost_ret (v := .tuple #[.agg #[x, y, z], ev]) (by simp [results, Tryd.results115, go_sem, h2, h3, c0, c1, c2]) rfl hR

/-- The function value g, in a variable. -/
def FCell (w : World) (B : Nat) (g : FuncId) (cap : Array Value) : Prop := w.cell? ⟨B, 0, none⟩ = some (.func (.func g) #[] cap) ∧ B < w.heap.size
theorem FCell.below {w w' : World} {B : Nat} {g : FuncId} {cap : Array Value} (h : FCell w B g cap) (hb : Below w.heap.size w w') : FCell w' B g cap :=
  ⟨(bcellN hb _ _ h.2).trans h.1, Nat.lt_of_lt_of_le h.2 hb.size⟩

set_option maxHeartbeats 4000000 in
set_option maxRecDepth 100000 in
theorem change1_any (g : FuncId) (Bf : Nat) (v : Value) (ta tr : Bool × Nat × Nat) (w : World) (hc : FCell w Bf g #[]) (hF : FNorm w v ta) (ht : TabOk w)
    (hfn : ∀ args W, (callFunc g args).run Tryd.prog W = .ok (.enter g args) W)
    (hop : ∀ W v', TabOk W → FNorm W v' ta → Calls Tryd.prog g #[v'] W fun e w' => ∃ v'', e = .returned v'' ∧ FNorm w' v'' tr ∧ Below W.heap.size W w') :
    Calls Tryd.prog 95 #[v, .pointer (some ⟨Bf, 0, none⟩)] w fun e w' => Below w.heap.size w w' ∧ FRes w' e 0 tr := by
  have hF' := hid hF
  obtain ⟨vn, vd, rfl, ⟨p1, k1, c1, rfl, _⟩, ⟨p2, k2, c2, rfl, _⟩⟩ := hF
  have HOP := hid (fun W v' (h1 : TabOk W) (h2 : FNorm W v' ta) => fopen (hop W v' h1 h2))
  have HX := hid (And.intro hc ht)
  clear hc hop ht
  generalize ta.1 = s at *
  go_enter Tryd.func95, Tryd.ntmps95
  go_upto_region 1 with fail
  have hK := below_alloc2 w (.cells #[.bool s, .slice p1 k1 c1, .slice p2 k2 c2] 54) (.cells #[.bool false, .slice none 0 0, .slice none 0 0] 54)
  have hVa := (Var3.alloc w (x := .bool s) (y := .slice p1 k1 c1) (z := .slice p2 k2 c2) 54 trivial trivial trivial).below ((Below.refl _ _).alloc (Nat.le_refl _) (.cells #[.bool false, .slice none 0 0, .slice none 0 0] 54))
  have hVr := Var3.alloc2 w (.cells #[.bool s, .slice p1 k1 c1, .slice p2 k2 c2] 54) (x := .bool false) (y := .slice none 0 0) (z := .slice none 0 0) 54 trivial trivial trivial
  generalize (w.alloc (.cells #[.bool s, .slice p1 k1 c1, .slice p2 k2 c2] 54)).alloc (.cells #[.bool false, .slice none 0 0, .slice none 0 0] 54) = W0 at *
  have hfc := (HX.out.1.below hK).1
  obtain ⟨x0, x1, x2, _⟩ := id hVa.cells
  have hcall := hid (HOP.out W0 _ (HX.out.2.below hK) (hF'.out.below hK))
  have HV := hid (And.intro hVr hK)
  clear hVa hVr hK
  go_wp2_with fail
  refine hcall.out.mono ?_
  rintro e w1 ⟨sg, pa, ka, ca, pb, kb, cb, rfl, hF1, hB1⟩
  have hV1 := HV.out.1.below hB1
  obtain ⟨z0, z1, z2, r0, r1, r2⟩ := id hV1.cells
  have HV1 := hid (And.intro hV1 (HV.out.2.trans (hB1.mono HV.out.2.size)))
  clear x0 x1 x2 hV1 hB1 hcall HV hfc
  go_wp2_with fail
  exact change1_ret rfl rfl (HV1.out.1.store trivial trivial trivial) ⟨below_set3 HV1.out.2 (Nat.le_succ _), .inr ⟨rfl, _, _, _, _, _, _, _, rfl, hid (hF1.out.store3 HV1.out.1 _ _ _)⟩⟩

set_option maxHeartbeats 4000000 in
set_option maxRecDepth 100000 in
theorem combine1_any (g : FuncId) (Bf : Nat) (v u : Value) (ta tb tr : Bool × Nat × Nat) (w : World) (hc : FCell w Bf g #[]) (hF : FNorm w v ta) (hG : FNorm w u tb) (ht : TabOk w)
    (hfn : ∀ args W, (callFunc g args).run Tryd.prog W = .ok (.enter g args) W)
    (hop : ∀ W v' u', TabOk W → FNorm W v' ta → FNorm W u' tb → Calls Tryd.prog g #[v', u'] W fun e w' => ∃ v'', e = .returned v'' ∧ FNorm w' v'' tr ∧ Below W.heap.size W w') :
    Calls Tryd.prog 103 #[v, u, .pointer (some ⟨Bf, 0, none⟩)] w fun e w' => Below w.heap.size w w' ∧ FRes w' e 0 tr := by
  have hF' := hid hF
  have hG' := hid hG
  obtain ⟨vn, vd, rfl, ⟨p1, k1, c1, rfl, _⟩, ⟨p2, k2, c2, rfl, _⟩⟩ := hF
  obtain ⟨un, ud, rfl, ⟨p3, k3, c3, rfl, _⟩, ⟨p4, k4, c4, rfl, _⟩⟩ := hG
  have HOP := hid (fun W v' u' (h1 : TabOk W) (h2 : FNorm W v' ta) (h3 : FNorm W u' tb) => fopen (hop W v' u' h1 h2 h3))
  have HX := hid (And.intro hc ht)
  clear hc hop ht
  generalize ta.1 = s at *
  generalize tb.1 = s' at *
  go_enter Tryd.func103, Tryd.ntmps103
  go_upto_region 1 with fail
  have hK := below_alloc3 w (.cells #[.bool s, .slice p1 k1 c1, .slice p2 k2 c2] 54) (.cells #[.bool s', .slice p3 k3 c3, .slice p4 k4 c4] 54) (.cells #[.bool false, .slice none 0 0, .slice none 0 0] 54)
  have hVa := ((Var3.alloc w (x := .bool s) (y := .slice p1 k1 c1) (z := .slice p2 k2 c2) 54 trivial trivial trivial).below ((Below.refl _ _).alloc (Nat.le_refl _) (.cells #[.bool s', .slice p3 k3 c3, .slice p4 k4 c4] 54))).below ((Below.refl _ _).alloc (Nat.le_refl _) (.cells #[.bool false, .slice none 0 0, .slice none 0 0] 54))
  have hVb := (Var3.alloc2 w (.cells #[.bool s, .slice p1 k1 c1, .slice p2 k2 c2] 54) (x := .bool s') (y := .slice p3 k3 c3) (z := .slice p4 k4 c4) 54 trivial trivial trivial).below ((Below.refl _ _).alloc (Nat.le_refl _) (.cells #[.bool false, .slice none 0 0, .slice none 0 0] 54))
  have hVr := Var3.alloc3 w (.cells #[.bool s, .slice p1 k1 c1, .slice p2 k2 c2] 54) (.cells #[.bool s', .slice p3 k3 c3, .slice p4 k4 c4] 54) (x := .bool false) (y := .slice none 0 0) (z := .slice none 0 0) 54 trivial trivial trivial
  generalize ((w.alloc (.cells #[.bool s, .slice p1 k1 c1, .slice p2 k2 c2] 54)).alloc (.cells #[.bool s', .slice p3 k3 c3, .slice p4 k4 c4] 54)).alloc (.cells #[.bool false, .slice none 0 0, .slice none 0 0] 54) = W0 at *
  have hfc := (HX.out.1.below hK).1
  obtain ⟨x0, x1, x2, _⟩ := id hVa.cells
  obtain ⟨b0, b1, b2, _⟩ := id hVb.cells
  have hcall := hid (HOP.out W0 _ _ (HX.out.2.below hK) (hF'.out.below hK) (hG'.out.below hK))
  have HV : Hid (Var3 W0 (w.heap.size + 1 + 1) (.bool false) (.slice none 0 0) (.slice none 0 0) ∧ Below w.heap.size w W0) := hid ⟨hVr, hK⟩
  clear hVa hVb hVr hK
  go_wp2_with fail
  refine hcall.out.mono ?_
  rintro e w1 ⟨sg, pa, ka, ca, pb, kb, cb, rfl, hF1, hB1⟩
  have hV1 := HV.out.1.below hB1
  obtain ⟨z0, z1, z2, r0, r1, r2⟩ := id hV1.cells
  have HV1 := hid (And.intro hV1 (HV.out.2.trans (hB1.mono HV.out.2.size)))
  clear x0 x1 x2 b0 b1 b2 hV1 hB1 hcall HV hfc
  go_wp2_with fail
  exact combine1_ret rfl rfl (HV1.out.1.store trivial trivial trivial) ⟨below_set3 HV1.out.2 (by show w.heap.size ≤ w.heap.size + 1 + 1; omega), .inr ⟨rfl, _, _, _, _, _, _, _, rfl, hid (hF1.out.store3 HV1.out.1 _ _ _)⟩⟩

/-- The error of an operation on two numbers, behind the first one's size. -/
def bcode (n d : Nat) (c : Int) : Int := if large n d then 1 else c

set_option maxHeartbeats 4000000 in
set_option maxRecDepth 100000 in
theorem binary1_any (fid : FuncId) (cap : Array Value) (By Bo : Nat) (v y : Value) (ta : Bool × Nat × Nat) (s : Bool) (n d : Nat) (c : Int) (t : Bool × Nat × Nat) (w : World)
    (hy : ARep w y s n d) (hcy : ∀ x0 x1 x2, y = .agg #[x0, x1, x2] → Var3 w By x0 x1 x2) (hc : FCell w Bo fid cap) (hF : FNorm w v ta) (ht : TabOk w)
    (hfn : ∀ args W, (callFunc fid args).run Tryd.prog W = .ok (.enter fid args) W)
    (hop : ∀ W v' u', Below w.heap.size w W → large n d = false → FNorm W v' ta → FNorm W u' (frac s n (den1 d)) → Calls Tryd.prog fid (#[v', u'] ++ cap) W fun e w' => Below W.heap.size W w' ∧ FRes w' e c t) :
    Calls Tryd.prog 115 #[v, .pointer (some ⟨By, 0, none⟩), .pointer (some ⟨Bo, 0, none⟩)] w fun e w' => Below w.heap.size w w' ∧ FRes w' e (bcode n d c) t := by
  have hF' := hid hF
  have hy' := hid hy
  obtain ⟨vn, vd, rfl, ⟨p1, k1, c1, rfl, _⟩, ⟨p2, k2, c2, rfl, _⟩⟩ := hF
  obtain ⟨un, ud, rfl, ⟨p3, k3, c3, rfl, _⟩, ⟨p4, k4, c4, rfl, _⟩⟩ := hy
  have hVy := hcy _ _ _ rfl
  have HOP := hid hop
  have HX := hid (And.intro hc (And.intro ht hVy))
  clear hc hop ht hcy hVy
  generalize ta.1 = sa at *
  go_enter Tryd.func115, Tryd.ntmps115
  go_upto_region 1 with fail
  have hK := below_alloc2 w (.cells #[.bool sa, .slice p1 k1 c1, .slice p2 k2 c2] 54) (.cells #[.bool false, .slice none 0 0, .slice none 0 0] 54)
  have hVa := (Var3.alloc w (x := .bool sa) (y := .slice p1 k1 c1) (z := .slice p2 k2 c2) 54 trivial trivial trivial).below ((Below.refl _ _).alloc (Nat.le_refl _) (.cells #[.bool false, .slice none 0 0, .slice none 0 0] 54))
  have hVr := Var3.alloc2 w (.cells #[.bool sa, .slice p1 k1 c1, .slice p2 k2 c2] 54) (x := .bool false) (y := .slice none 0 0) (z := .slice none 0 0) 54 trivial trivial trivial
  generalize (w.alloc (.cells #[.bool sa, .slice p1 k1 c1, .slice p2 k2 c2] 54)).alloc (.cells #[.bool false, .slice none 0 0, .slice none 0 0] 54) = W0 at *
  have HV := hid (And.intro hVr (And.intro hVa hK))
  obtain ⟨x0, x1, x2, _⟩ := id (HX.out.2.2.below hK).cells
  have hof := hid (FracOf_open _ s n d W0 (hy'.out.below hK) (HX.out.2.1.below hK))
  clear hVa hVr hK
  go_wp2_with fail
  refine hof.out.mono ?_
  rintro e w1 ⟨hB1, hR1⟩
  have hV1 := HV.out.1.below hB1
  have hVa1 := HV.out.2.1.below hB1
  have hK1 := HV.out.2.2.trans (hB1.mono HV.out.2.2.size)
  clear x0 x1 x2 hof HV
  by_cases hL : large n d = true
  · rw [if_pos hL] at hR1
    have HU : Hid (bcode n d c = 1) := hid (if_pos hL)
    rcases hR1 with ⟨_, rfl⟩ | ⟨h0, _⟩
    · unfold zeroF
      have hV2 := hV1.below ((Below.refl _ _).alloc (Nat.le_refl _) (.cells #[.bool false, .slice none 0 0, .slice none 0 0] 54))
      have hB2 := hK1.alloc hK1.size (.cells #[.bool false, .slice none 0 0, .slice none 0 0] 54)
      clear hL hV1 hVa1 hK1 hB1
      go_upto_region 2 with fail
      generalize w1.alloc (.cells #[.bool false, .slice none 0 0, .slice none 0 0] 54) = W2 at *
      obtain ⟨x0, x1, x2, y0, y1, y2⟩ := id hV2.cells
      have HV := hid (And.intro hV2 hB2)
      clear hV2 hB2
      go_wp2_with fail
      exact binary1_ret rfl rfl (HV.out.1.store trivial trivial trivial) ⟨below_set3 HV.out.2 (Nat.le_succ _), .inl ⟨by rw [HU.out]; decide, by rw [HU.out]; rfl⟩⟩
    · exact absurd h0 (by decide)
  · rw [if_neg hL] at hR1
    have HU : Hid (bcode n d c = c) := hid (if_neg hL)
    rcases hR1 with ⟨h0, _⟩ | ⟨_, sg, pa, ka, ca, pb, kb, cb, rfl, hFb⟩
    · exact absurd rfl h0
    · have hK := (Below.refl _ w1).alloc (Nat.le_refl _) (.cells #[.bool sg, .slice pa ka ca, .slice pb kb cb] 54)
      have hV2 := hV1.below hK
      have hVa2 := hVa1.below hK
      have hB2 := hK1.alloc hK1.size (.cells #[.bool sg, .slice pa ka ca, .slice pb kb cb] 54)
      have hF2 := hid (hFb.out.below hK)
      have hVb : Var3 (w1.alloc (.cells #[.bool sg, .slice pa ka ca, .slice pb kb cb] 54)) w1.heap.size (.bool sg) (.slice pa ka ca) (.slice pb kb cb) := Var3.alloc w1 54 trivial trivial trivial
      have HLL : Hid (large n d = false) := hid (by simpa using hL)
      clear hL hV1 hVa1 hK1 hB1 hK hFb
      go_upto_region 2 with fail
      generalize w1.alloc (.cells #[.bool sg, .slice pa ka ca, .slice pb kb cb] 54) = W2 at *
      generalize w1.heap.size = X at *
      have HV := hid (And.intro hV2 hB2)
      have hop := hid (HOP.out W2 _ _ hB2 HLL.out (hF'.out.below hB2) hF2.out)
      have hfc := (HX.out.1.below hB2).1
      obtain ⟨x0, x1, x2, _⟩ := id hVa2.cells
      obtain ⟨b0, b1, b2, _⟩ := id hVb.cells
      clear hV2 hB2 hVa2 hVb
      go_wp2_with fail
      refine hop.out.mono ?_
      rintro e w3 ⟨hB3, hR3⟩
      have hV3 := HV.out.1.below hB3
      obtain ⟨z0, z1, z2, r0, r1, r2⟩ := id hV3.cells
      have HV3 := hid (And.intro hV3 (HV.out.2.trans (hB3.mono HV.out.2.size)))
      clear x0 x1 x2 b0 b1 b2 hop HV hF2 hV3 hB3 hfc
      rcases hR3 with ⟨hc, rfl⟩ | ⟨hc, sg', pa', ka', ca', pb', kb', cb', rfl, hF3⟩
      · unfold zeroF
        go_wp2_with fail
        exact binary1_ret rfl rfl (HV3.out.1.store trivial trivial trivial) ⟨below_set3 HV3.out.2 (Nat.le_succ _), .inl ⟨by rw [HU.out]; exact hc, by rw [HU.out]; rfl⟩⟩
      · subst hc
        go_wp2_with fail
        exact binary1_ret rfl rfl (HV3.out.1.store trivial trivial trivial) ⟨below_set3 HV3.out.2 (Nat.le_succ _), .inr ⟨HU.out, _, _, _, _, _, _, _, rfl, hid (hF3.out.store3 HV3.out.1 _ _ _)⟩⟩
end Go.Proofs.YtdinpeglclkjhaaDoor
