/- Numbers of the program: unary, binary, change, combine, FromInt. Numbers of the program: the closures of change, combine, binary. Numbers of the program: change, combine, binary. Numbers of the program: FromInt, Add. Fractions of the program: Mul, Sub, Div, Compare. Numbers of the program: Sub, Mul, Div. -/
import Derived.Test.YtheojajaefjecaaGreatDoorFracX
set_option maxHeartbeats 4000000
set_option maxRecDepth 100000
namespace Go.Proofs.YtheojajaefjecaaGreatDoor
open Go.RowKit Dg
def FRes (w : World) (e : Ending) (c : Int) (t : Bool × Nat × Nat) : Prop :=
 (c ≠ 0 ∧ e = .returned (.tuple #[zeroF, .int .i64 c])) ∨
 (c = 0 ∧ ∃ sg pa ka ca pb kb cb, e = .returned (.tuple #[.agg #[.bool sg, .slice pa ka ca, .slice pb kb cb], .int .i64 0]) ∧ Hid (FNorm w (.agg #[.bool sg, .slice pa ka ca, .slice pb kb cb]) t))
theorem unary_ret {W : World} {B : Nat} {x y z ev : Value} {tm : Array Value} {R : Ending → World → Prop} (h2 : tm[4]?.getD undef = .pointer (some ⟨B, 0, none⟩)) (h3 : tm[5]?.getD undef = ev) (hV : Var3 W B x y z)
  (hR : R (.returned (.tuple #[.agg #[x, y, z], ev])) W) : bodyPost Tryz.prog Tryz.f199 R .ret { tmps := tm, defers := [] } W := by
 obtain ⟨c0, c1, c2, _, _, _⟩ := hV.cells
 exact bodyPost_ret (v := .tuple #[.agg #[x, y, z], ev]) (by simp [results, Tryz.results199, go_sem, h2, h3, c0, c1, c2]) rfl hR
theorem FracOf_open (v : Value) (s : Bool) (n d : Nat) (w : World) (h : ARep w v s n d) (ht : TabOk w) :
  Calls Tryz.prog 105 #[v] w fun e w' => Below w.heap.size w w' ∧ FRes w' e (if large n d then 1 else 0) (frac s n (den1 d)) := by
 refine (FracOf_any v s n d w h ht).mono ?_
 rintro e w' ⟨hB, ⟨hL, he⟩ | ⟨hL, v', he, vn, vd, hv, h1, h2⟩⟩
 ·exact ⟨hB, .inl ⟨by rw [hL]; decide, by rw [hL]; exact he⟩⟩
 ·obtain ⟨pa, ka, ca, rfl, a1⟩ := id h1
  obtain ⟨pb, kb, cb, rfl, a2⟩ := id h2
  exact ⟨hB, .inr ⟨by rw [hL]; rfl, _, pa, ka, ca, pb, kb, cb, by rw [he, hv]; rfl, hid ⟨_, _, rfl, h1, h2⟩⟩⟩
theorem FracRat_open (v : Value) (t : Bool × Nat × Nat) (w : World) (h : FNorm w v t) (hn : t.2.1 < W32 ^ 1000000000) (hd : t.2.2 < W32 ^ 1000000000) :
  Calls Tryz.prog 152 #[v] w fun e w' => Below w.heap.size w w' ∧ FRes w' e (if big t.2.1 t.2.2 then 1 else 0) (t.1, t.2.1, den0 t.2.2) := by
 refine (FracRat_any v t.1 t.2.1 t.2.2 w h hn hd).mono ?_
 rintro e w' ⟨hB, ⟨hL, he⟩ | ⟨hL, v', he, vn, vd, hv, h1, h2⟩⟩
 ·exact ⟨hB, .inl ⟨by rw [hL]; decide, by rw [hL]; exact he⟩⟩
 ·obtain ⟨pa, ka, ca, rfl, a1⟩ := id h1
  obtain ⟨pb, kb, cb, rfl, a2⟩ := id h2
  exact ⟨hB, .inr ⟨by rw [hL]; rfl, _, pa, ka, ca, pb, kb, cb, by rw [he, hv], hid ⟨_, _, rfl, h1, h2⟩⟩⟩
theorem call_enter {P : Program} {f : FuncId} {fn : Func} {c : Code} (hf : P.funcs[f]? = some fn) (hname : (fn.name == "runtime.NumGoroutine") = false) (hb : fn.body = some c) (args : Array Value) (w : World) :
  (callFunc f args).run P w = .ok (.enter f args) w := by
 have h1 : fn.name ≠ "runtime.NumGoroutine" := by simpa using hname
 simp [callFunc, hf, h1, hb]
theorem enter115 (args : Array Value) (w : World) : (callFunc 200 args).run Tryz.prog w = .ok (.enter 200 args) w := call_enter Tryz.func200 (by kernel_rfl) rfl args w
def ucode (n d : Nat) (c : Int) (t : Bool × Nat × Nat) : Int := if large n d then 1 else if c ≠ 0 then c else if big t.2.1 t.2.2 then 1 else 0
theorem unary_any (fid : FuncId) (cap : Array Value) (v : Value) (s : Bool) (n d : Nat) (c : Int) (t : Bool × Nat × Nat) (w : World) (h : ARep w v s n d) (ht : TabOk w)
  (hfn : ∀ args W, (callFunc fid args).run Tryz.prog W = .ok (.enter fid args) W)
  (hop : ∀ W v', Below w.heap.size w W → large n d = false → FNorm W v' (frac s n (den1 d)) → Calls Tryz.prog fid (#[v'] ++ cap) W fun e w' => Below W.heap.size W w' ∧ FRes w' e c t)
  (hbt : large n d = false → c = 0 → t.2.1 < W32 ^ 1000000000 ∧ t.2.2 < W32 ^ 1000000000) :
  Calls Tryz.prog 199 #[v, .func (.func fid) #[] cap] w fun e w' => Below w.heap.size w w' ∧ FRes w' e (ucode n d c t) (t.1, t.2.1, den0 t.2.2) := by
 have hA := h
 obtain ⟨vn, vd, rfl, ⟨p1, k1, c1, rfl, _⟩, ⟨p2, k2, c2, rfl, _⟩⟩ := h
 have HA := hid (And.intro hA (And.intro ht hbt))
 have HOP := hid hop
 clear hA ht hbt hop
 go_enter Tryz.func199, Tryz.ntmps199
 go_wp2_with fail
 have hVr := Var3.alloc2 w (.cells #[.bool s, .slice p1 k1 c1, .slice p2 k2 c2] 24) (x := .bool false) (y := .slice none 0 0) (z := .slice none 0 0) 24 trivial trivial trivial
 have hB0 := below_alloc2 w (.cells #[.bool s, .slice p1 k1 c1, .slice p2 k2 c2] 24) (.cells #[.bool false, .slice none 0 0, .slice none 0 0] 24)
 generalize hW0 : (w.alloc (.cells #[.bool s, .slice p1 k1 c1, .slice p2 k2 c2] 24)).alloc (.cells #[.bool false, .slice none 0 0, .slice none 0 0] 24) = W0 at *
 clear hW0
 refine (FracOf_open _ s n d W0 (HA.out.1.below hB0) (HA.out.2.1.below hB0)).mono ?_
 rintro e w1 ⟨hB1, hR1⟩
 have hVr1 := hVr.below hB1
 have hB01 := hB0.trans (hB1.mono hB0.size)
 obtain ⟨x0, x1, x2, y0, y1, y2⟩ := id hVr1.cells
 clear x0 x1 x2 y0 y1 y2
 by_cases hL : large n d = true
 ·rw [if_pos hL] at hR1
  have HU : Hid (ucode n d c t = 1) := hid (if_pos hL)
  rcases hR1 with ⟨_, rfl⟩ | ⟨h0, _⟩
  ·unfold zeroF
   have hV2 := hVr1.below ((Below.refl _ _).alloc (Nat.le_refl _) (.cells #[.bool false, .slice none 0 0, .slice none 0 0] 55))
   have hB2 := hB01.alloc hB01.size (.cells #[.bool false, .slice none 0 0, .slice none 0 0] 55)
   clear hL hVr1 hB01 hVr hB0 hB1
   go_upto_region 2 with fail
   generalize w1.alloc (.cells #[.bool false, .slice none 0 0, .slice none 0 0] 55) = W2 at *
   obtain ⟨x0, x1, x2, y0, y1, y2⟩ := id hV2.cells
   have HV := hid (And.intro hV2 hB2)
   clear hV2 hB2
   go_wp2_with fail
   exact unary_ret rfl rfl (HV.out.1.store trivial trivial trivial) ⟨below_set3 HV.out.2 (Nat.le_succ _), .inl ⟨by rw [HU.out]; decide, by rw [HU.out]; rfl⟩⟩
  ·exact absurd h0 (by decide)
 ·rw [if_neg hL] at hR1
  have HU : Hid (ucode n d c t = if c ≠ 0 then c else if big t.2.1 t.2.2 then 1 else 0) := hid (if_neg hL)
  rcases hR1 with ⟨h0, _⟩ | ⟨_, sg, pa, ka, ca, pb, kb, cb, rfl, hF⟩
  ·exact absurd rfl h0
  ·have hK := (Below.refl _ w1).alloc (Nat.le_refl _) (.cells #[.bool sg, .slice pa ka ca, .slice pb kb cb] 55)
   have hV2 := hVr1.below hK
   have hB2 := hB01.alloc hB01.size (.cells #[.bool sg, .slice pa ka ca, .slice pb kb cb] 55)
   have hF2 := hid (hF.out.below hK)
   have hVa : Var3 (w1.alloc (.cells #[.bool sg, .slice pa ka ca, .slice pb kb cb] 55)) w1.heap.size (.bool sg) (.slice pa ka ca) (.slice pb kb cb) := Var3.alloc w1 55 trivial trivial trivial
   have HLL : Hid (large n d = false) := hid (by simpa using hL)
   clear hL hVr1 hB01 hVr hB0 hB1 hK hF
   go_upto_region 2 with fail
   generalize w1.alloc (.cells #[.bool sg, .slice pa ka ca, .slice pb kb cb] 55) = W2 at *
   generalize w1.heap.size = X at *
   have HV := hid (And.intro hV2 (And.intro hB2 hVa))
   have hop := hid (HOP.out W2 _ hB2 HLL.out hF2.out)
   obtain ⟨x0, x1, x2, _⟩ := id hVa.cells
   clear hV2 hB2 hVa
   go_wp2_with fail
   refine hop.out.mono ?_
   rintro e w3 ⟨hB3, hR3⟩
   have hV3 := HV.out.1.below hB3
   have hB03 := HV.out.2.1.trans (hB3.mono HV.out.2.1.size)
   clear x0 x1 x2 hop HV hF2
   rcases hR3 with ⟨hc, rfl⟩ | ⟨hc, sg', pa', ka', ca', pb', kb', cb', rfl, hF3⟩
   ·unfold zeroF
    have hV4 := hV3.below ((Below.refl _ _).alloc (Nat.le_refl _) (.cells #[.bool false, .slice none 0 0, .slice none 0 0] 55))
    have hB4 := hB03.alloc hB03.size (.cells #[.bool false, .slice none 0 0, .slice none 0 0] 55)
    clear hV3 hB03 hB3
    have HU2 : Hid (ucode n d c t = c ∧ c ≠ 0) := hid ⟨by rw [HU.out, if_pos hc], hc⟩
    go_upto_region 5 with fail
    generalize w3.alloc (.cells #[.bool false, .slice none 0 0, .slice none 0 0] 55) = W4 at *
    obtain ⟨x0, x1, x2, y0, y1, y2⟩ := id hV4.cells
    have HV := hid (And.intro hV4 hB4)
    clear hV4 hB4
    go_wp2_with fail
    exact unary_ret rfl rfl (HV.out.1.store trivial trivial trivial) ⟨below_set3 HV.out.2 (Nat.le_succ _), .inl ⟨by rw [HU2.out.1]; exact HU2.out.2, by rw [HU2.out.1]; rfl⟩⟩
   ·subst hc
    have HU2 : Hid (ucode n d 0 t = if big t.2.1 t.2.2 then 1 else 0) := hid (by rw [HU.out, if_neg (by decide)])
    have hK := (Below.refl _ w3).alloc (Nat.le_refl _) (.cells #[.bool sg', .slice pa' ka' ca', .slice pb' kb' cb'] 55)
    have hV4 := hV3.below hK
    have hB4 := hB03.alloc hB03.size (.cells #[.bool sg', .slice pa' ka' ca', .slice pb' kb' cb'] 55)
    have hF4 := hid (hF3.out.below hK)
    have hVa : Var3 (w3.alloc (.cells #[.bool sg', .slice pa' ka' ca', .slice pb' kb' cb'] 55)) w3.heap.size (.bool sg') (.slice pa' ka' ca') (.slice pb' kb' cb') := Var3.alloc w3 55 trivial trivial trivial
    clear hV3 hB03 hB3 hK hF3
    go_upto_region 5 with fail
    generalize w3.alloc (.cells #[.bool sg', .slice pa' ka' ca', .slice pb' kb' cb'] 55) = W4 at *
    generalize w3.heap.size = X' at *
    obtain ⟨x0, x1, x2, _⟩ := id hVa.cells
    have HV := hid (And.intro hV4 hB4)
    have hrat := hid (FracRat_open _ t W4 hF4.out (HA.out.2.2 HLL.out (by trivial)).1 (HA.out.2.2 HLL.out (by trivial)).2)
    clear hV4 hB4 hVa hF4
    go_wp2_with fail
    refine hrat.out.mono ?_
    rintro e w5 ⟨hB5, hR5⟩
    have hV5 := HV.out.1.below hB5
    obtain ⟨z0, z1, z2, r0, r1, r2⟩ := id hV5.cells
    have HV5 := hid (And.intro hV5 (HV.out.2.trans (hB5.mono HV.out.2.size)))
    clear hV5 hB5 hrat HV x0 x1 x2
    rcases hR5 with ⟨hc, rfl⟩ | ⟨hc, s6, p6, k6, c6, p7, k7, c7, rfl, hF6⟩
    ·obtain ⟨bb, hbb⟩ : ∃ bb, bb = (if big t.2.1 t.2.2 then (1 : Int) else 0) := ⟨_, rfl⟩
     rw [← hbb] at hc ⊢
     rw [← hbb] at HU2
     clear hbb
     unfold zeroF
     go_wp2_with fail
     exact unary_ret rfl rfl (HV5.out.1.store trivial trivial trivial) ⟨below_set3 HV5.out.2 (Nat.le_succ _), .inl ⟨by rw [HU2.out]; exact hc, by rw [HU2.out]; rfl⟩⟩
    ·have HU6 := hid (HU2.out.trans hc)
     clear hc
     go_wp2_with fail
     exact unary_ret rfl rfl (HV5.out.1.store trivial trivial trivial) ⟨below_set3 HV5.out.2 (Nat.le_succ _), .inr ⟨HU6.out, _, _, _, _, _, _, _, rfl, hid (hF6.out.store3 HV5.out.1 _ _ _)⟩⟩
end Go.Proofs.YtheojajaefjecaaGreatDoor
namespace Go.Proofs.YtheojajaefjecaaGreatDoor
open Go.RowKit Dg
theorem combine1_ret {W : World} {B : Nat} {x y z ev : Value} {tm : Array Value} {R : Ending → World → Prop} (h2 : tm[5]?.getD undef = .pointer (some ⟨B, 0, none⟩)) (h3 : tm[6]?.getD undef = ev) (hV : Var3 W B x y z)
  (hR : R (.returned (.tuple #[.agg #[x, y, z], ev])) W) : bodyPost Tryz.prog Tryz.f207 R .ret { tmps := tm, defers := [] } W := by
 obtain ⟨c0, c1, c2, _, _, _⟩ := hV.cells
 exact bodyPost_ret (v := .tuple #[.agg #[x, y, z], ev]) (by simp [results, Tryz.results207, go_sem, h2, h3, c0, c1, c2]) rfl hR
theorem binary1_ret {W : World} {B : Nat} {x y z ev : Value} {tm : Array Value} {R : Ending → World → Prop} (h2 : tm[4]?.getD undef = .pointer (some ⟨B, 0, none⟩)) (h3 : tm[5]?.getD undef = ev) (hV : Var3 W B x y z)
  (hR : R (.returned (.tuple #[.agg #[x, y, z], ev])) W) : bodyPost Tryz.prog Tryz.f200 R .ret { tmps := tm, defers := [] } W := by
 obtain ⟨c0, c1, c2, _, _, _⟩ := hV.cells
 exact bodyPost_ret (v := .tuple #[.agg #[x, y, z], ev]) (by simp [results, Tryz.results200, go_sem, h2, h3, c0, c1, c2]) rfl hR
def FCell (w : World) (B : Nat) (g : FuncId) (cap : Array Value) : Prop := w.cell? ⟨B, 0, none⟩ = some (.func (.func g) #[] cap) ∧ B < w.heap.size
theorem FCell.below {w w' : World} {B : Nat} {g : FuncId} {cap : Array Value} (h : FCell w B g cap) (hb : Below w.heap.size w w') : FCell w' B g cap :=
 ⟨(bcellN hb _ _ h.2).trans h.1, Nat.lt_of_lt_of_le h.2 hb.size⟩
theorem combine1_any (g : FuncId) (Bf : Nat) (v u : Value) (ta tb tr : Bool × Nat × Nat) (w : World) (hc : FCell w Bf g #[]) (hF : FNorm w v ta) (hG : FNorm w u tb) (ht : TabOk w)
  (hfn : ∀ args W, (callFunc g args).run Tryz.prog W = .ok (.enter g args) W)
  (hop : ∀ W v' u', TabOk W → FNorm W v' ta → FNorm W u' tb → Calls Tryz.prog g #[v', u'] W fun e w' => ∃ v'', e = .returned v'' ∧ FNorm w' v'' tr ∧ Below W.heap.size W w') :
  Calls Tryz.prog 207 #[v, u, .pointer (some ⟨Bf, 0, none⟩)] w fun e w' => Below w.heap.size w w' ∧ FRes w' e 0 tr := by
 have hF' := hid hF
 have hG' := hid hG
 obtain ⟨vn, vd, rfl, ⟨p1, k1, c1, rfl, _⟩, ⟨p2, k2, c2, rfl, _⟩⟩ := hF
 obtain ⟨un, ud, rfl, ⟨p3, k3, c3, rfl, _⟩, ⟨p4, k4, c4, rfl, _⟩⟩ := hG
 have HOP := hid (fun W v' u' (h1 : TabOk W) (h2 : FNorm W v' ta) (h3 : FNorm W u' tb) => fopen (hop W v' u' h1 h2 h3))
 have HX := hid (And.intro hc ht)
 clear hc hop ht
 generalize ta.1 = s at *
 generalize tb.1 = s' at *
 go_enter Tryz.func207, Tryz.ntmps207
 go_upto_region 1 with fail
 have hK := below_alloc3 w (.cells #[.bool s, .slice p1 k1 c1, .slice p2 k2 c2] 55) (.cells #[.bool s', .slice p3 k3 c3, .slice p4 k4 c4] 55) (.cells #[.bool false, .slice none 0 0, .slice none 0 0] 55)
 have hVa := ((Var3.alloc w (x := .bool s) (y := .slice p1 k1 c1) (z := .slice p2 k2 c2) 55 trivial trivial trivial).below ((Below.refl _ _).alloc (Nat.le_refl _) (.cells #[.bool s', .slice p3 k3 c3, .slice p4 k4 c4] 55))).below ((Below.refl _ _).alloc (Nat.le_refl _) (.cells #[.bool false, .slice none 0 0, .slice none 0 0] 55))
 have hVb := (Var3.alloc2 w (.cells #[.bool s, .slice p1 k1 c1, .slice p2 k2 c2] 55) (x := .bool s') (y := .slice p3 k3 c3) (z := .slice p4 k4 c4) 55 trivial trivial trivial).below ((Below.refl _ _).alloc (Nat.le_refl _) (.cells #[.bool false, .slice none 0 0, .slice none 0 0] 55))
 have hVr := Var3.alloc3 w (.cells #[.bool s, .slice p1 k1 c1, .slice p2 k2 c2] 55) (.cells #[.bool s', .slice p3 k3 c3, .slice p4 k4 c4] 55) (x := .bool false) (y := .slice none 0 0) (z := .slice none 0 0) 55 trivial trivial trivial
 generalize ((w.alloc (.cells #[.bool s, .slice p1 k1 c1, .slice p2 k2 c2] 55)).alloc (.cells #[.bool s', .slice p3 k3 c3, .slice p4 k4 c4] 55)).alloc (.cells #[.bool false, .slice none 0 0, .slice none 0 0] 55) = W0 at *
 have hfc := (HX.out.1.below hK).1
 obtain ⟨x0, x1, x2, _⟩ := id hVa.cells
 obtain ⟨b0, b1, b2, _⟩ := id hVb.cells
 have hcall := hid (HOP.out W0 _ _ (HX.out.2.below hK) (hF'.out.below hK) (hG'.out.below hK))
 have HV : Hid (Var3 W0 (w.heap.size + 1 + 1) (.bool false) (.slice none 0 0) (.slice none 0 0) ∧ Below w.heap.size w W0) := hid ⟨hVr, hK⟩
 clear hVa hVb hVr hK
 go_wp2_with fail
 refine hcall.out.mono ?_
 rintro e w1 ⟨sg, pa, ka, ca, pb, kb, cb, rfl, hF1, hB1⟩
 have hV1 := HV.out.1.below hB1
 obtain ⟨z0, z1, z2, r0, r1, r2⟩ := id hV1.cells
 have HV1 := hid (And.intro hV1 (HV.out.2.trans (hB1.mono HV.out.2.size)))
 clear x0 x1 x2 b0 b1 b2 hV1 hB1 hcall HV hfc
 go_wp2_with fail
 exact combine1_ret rfl rfl (HV1.out.1.store trivial trivial trivial) ⟨below_set3 HV1.out.2 (by show w.heap.size ≤ w.heap.size + 1 + 1; omega), .inr ⟨rfl, _, _, _, _, _, _, _, rfl, hid (hF1.out.store3 HV1.out.1 _ _ _)⟩⟩
def bcode (n d : Nat) (c : Int) : Int := if large n d then 1 else c
theorem binary1_any (fid : FuncId) (cap : Array Value) (By Bo : Nat) (v y : Value) (ta : Bool × Nat × Nat) (s : Bool) (n d : Nat) (c : Int) (t : Bool × Nat × Nat) (w : World)
  (hy : ARep w y s n d) (hcy : ∀ x0 x1 x2, y = .agg #[x0, x1, x2] → Var3 w By x0 x1 x2) (hc : FCell w Bo fid cap) (hF : FNorm w v ta) (ht : TabOk w)
  (hfn : ∀ args W, (callFunc fid args).run Tryz.prog W = .ok (.enter fid args) W)
  (hop : ∀ W v' u', Below w.heap.size w W → large n d = false → FNorm W v' ta → FNorm W u' (frac s n (den1 d)) → Calls Tryz.prog fid (#[v', u'] ++ cap) W fun e w' => Below W.heap.size W w' ∧ FRes w' e c t) :
  Calls Tryz.prog 200 #[v, .pointer (some ⟨By, 0, none⟩), .pointer (some ⟨Bo, 0, none⟩)] w fun e w' => Below w.heap.size w w' ∧ FRes w' e (bcode n d c) t := by
 have hF' := hid hF
 have hy' := hid hy
 obtain ⟨vn, vd, rfl, ⟨p1, k1, c1, rfl, _⟩, ⟨p2, k2, c2, rfl, _⟩⟩ := hF
 obtain ⟨un, ud, rfl, ⟨p3, k3, c3, rfl, _⟩, ⟨p4, k4, c4, rfl, _⟩⟩ := hy
 have hVy := hcy _ _ _ rfl
 have HOP := hid hop
 have HX := hid (And.intro hc (And.intro ht hVy))
 clear hc hop ht hcy hVy
 generalize ta.1 = sa at *
 go_enter Tryz.func200, Tryz.ntmps200
 go_upto_region 1 with fail
 have hK := below_alloc2 w (.cells #[.bool sa, .slice p1 k1 c1, .slice p2 k2 c2] 55) (.cells #[.bool false, .slice none 0 0, .slice none 0 0] 55)
 have hVa := (Var3.alloc w (x := .bool sa) (y := .slice p1 k1 c1) (z := .slice p2 k2 c2) 55 trivial trivial trivial).below ((Below.refl _ _).alloc (Nat.le_refl _) (.cells #[.bool false, .slice none 0 0, .slice none 0 0] 55))
 have hVr := Var3.alloc2 w (.cells #[.bool sa, .slice p1 k1 c1, .slice p2 k2 c2] 55) (x := .bool false) (y := .slice none 0 0) (z := .slice none 0 0) 55 trivial trivial trivial
 generalize (w.alloc (.cells #[.bool sa, .slice p1 k1 c1, .slice p2 k2 c2] 55)).alloc (.cells #[.bool false, .slice none 0 0, .slice none 0 0] 55) = W0 at *
 have HV := hid (And.intro hVr (And.intro hVa hK))
 obtain ⟨x0, x1, x2, _⟩ := id (HX.out.2.2.below hK).cells
 have hof := hid (FracOf_open _ s n d W0 (hy'.out.below hK) (HX.out.2.1.below hK))
 clear hVa hVr hK
 go_wp2_with fail
 refine hof.out.mono ?_
 rintro e w1 ⟨hB1, hR1⟩
 have hV1 := HV.out.1.below hB1
 have hVa1 := HV.out.2.1.below hB1
 have hK1 := HV.out.2.2.trans (hB1.mono HV.out.2.2.size)
 clear x0 x1 x2 hof HV
 by_cases hL : large n d = true
 ·rw [if_pos hL] at hR1
  have HU : Hid (bcode n d c = 1) := hid (if_pos hL)
  rcases hR1 with ⟨_, rfl⟩ | ⟨h0, _⟩
  ·unfold zeroF
   have hV2 := hV1.below ((Below.refl _ _).alloc (Nat.le_refl _) (.cells #[.bool false, .slice none 0 0, .slice none 0 0] 55))
   have hB2 := hK1.alloc hK1.size (.cells #[.bool false, .slice none 0 0, .slice none 0 0] 55)
   clear hL hV1 hVa1 hK1 hB1
   go_upto_region 2 with fail
   generalize w1.alloc (.cells #[.bool false, .slice none 0 0, .slice none 0 0] 55) = W2 at *
   obtain ⟨x0, x1, x2, y0, y1, y2⟩ := id hV2.cells
   have HV := hid (And.intro hV2 hB2)
   clear hV2 hB2
   go_wp2_with fail
   exact binary1_ret rfl rfl (HV.out.1.store trivial trivial trivial) ⟨below_set3 HV.out.2 (Nat.le_succ _), .inl ⟨by rw [HU.out]; decide, by rw [HU.out]; rfl⟩⟩
  ·exact absurd h0 (by decide)
 ·rw [if_neg hL] at hR1
  have HU : Hid (bcode n d c = c) := hid (if_neg hL)
  rcases hR1 with ⟨h0, _⟩ | ⟨_, sg, pa, ka, ca, pb, kb, cb, rfl, hFb⟩
  ·exact absurd rfl h0
  ·have hK := (Below.refl _ w1).alloc (Nat.le_refl _) (.cells #[.bool sg, .slice pa ka ca, .slice pb kb cb] 55)
   have hV2 := hV1.below hK
   have hVa2 := hVa1.below hK
   have hB2 := hK1.alloc hK1.size (.cells #[.bool sg, .slice pa ka ca, .slice pb kb cb] 55)
   have hF2 := hid (hFb.out.below hK)
   have hVb : Var3 (w1.alloc (.cells #[.bool sg, .slice pa ka ca, .slice pb kb cb] 55)) w1.heap.size (.bool sg) (.slice pa ka ca) (.slice pb kb cb) := Var3.alloc w1 55 trivial trivial trivial
   have HLL : Hid (large n d = false) := hid (by simpa using hL)
   clear hL hV1 hVa1 hK1 hB1 hK hFb
   go_upto_region 2 with fail
   generalize w1.alloc (.cells #[.bool sg, .slice pa ka ca, .slice pb kb cb] 55) = W2 at *
   generalize w1.heap.size = X at *
   have HV := hid (And.intro hV2 hB2)
   have hop := hid (HOP.out W2 _ _ hB2 HLL.out (hF'.out.below hB2) hF2.out)
   have hfc := (HX.out.1.below hB2).1
   obtain ⟨x0, x1, x2, _⟩ := id hVa2.cells
   obtain ⟨b0, b1, b2, _⟩ := id hVb.cells
   clear hV2 hB2 hVa2 hVb
   go_wp2_with fail
   refine hop.out.mono ?_
   rintro e w3 ⟨hB3, hR3⟩
   have hV3 := HV.out.1.below hB3
   obtain ⟨z0, z1, z2, r0, r1, r2⟩ := id hV3.cells
   have HV3 := hid (And.intro hV3 (HV.out.2.trans (hB3.mono HV.out.2.size)))
   clear x0 x1 x2 b0 b1 b2 hop HV hF2 hV3 hB3 hfc
   rcases hR3 with ⟨hc, rfl⟩ | ⟨hc, sg', pa', ka', ca', pb', kb', cb', rfl, hF3⟩
   ·unfold zeroF
    go_wp2_with fail
    exact binary1_ret rfl rfl (HV3.out.1.store trivial trivial trivial) ⟨below_set3 HV3.out.2 (Nat.le_succ _), .inl ⟨by rw [HU.out]; exact hc, by rw [HU.out]; rfl⟩⟩
   ·subst hc
    go_wp2_with fail
    exact binary1_ret rfl rfl (HV3.out.1.store trivial trivial trivial) ⟨below_set3 HV3.out.2 (Nat.le_succ _), .inr ⟨HU.out, _, _, _, _, _, _, _, rfl, hid (hF3.out.store3 HV3.out.1 _ _ _)⟩⟩
end Go.Proofs.YtheojajaefjecaaGreatDoor
namespace Go.Proofs.YtheojajaefjecaaGreatDoor
open Go.RowKit Dg
theorem combine_ret {W : World} {B : Nat} {x y z ev : Value} {tm : Array Value} {R : Ending → World → Prop} (h2 : tm[6]?.getD undef = .pointer (some ⟨B, 0, none⟩)) (h3 : tm[7]?.getD undef = ev) (hV : Var3 W B x y z)
  (hR : R (.returned (.tuple #[.agg #[x, y, z], ev])) W) : bodyPost Tryz.prog Tryz.f153 R .ret { tmps := tm, defers := [] } W := by
 obtain ⟨c0, c1, c2, _, _, _⟩ := hV.cells
 exact bodyPost_ret (v := .tuple #[.agg #[x, y, z], ev]) (by simp [results, Tryz.results153, go_sem, h2, h3, c0, c1, c2]) rfl hR
theorem binary_ret {W : World} {B : Nat} {x y z ev : Value} {tm : Array Value} {R : Ending → World → Prop} (h2 : tm[6]?.getD undef = .pointer (some ⟨B, 0, none⟩)) (h3 : tm[7]?.getD undef = ev) (hV : Var3 W B x y z)
  (hR : R (.returned (.tuple #[.agg #[x, y, z], ev])) W) : bodyPost Tryz.prog Tryz.f147 R .ret { tmps := tm, defers := [] } W := by
 obtain ⟨c0, c1, c2, _, _, _⟩ := hV.cells
 exact bodyPost_ret (v := .tuple #[.agg #[x, y, z], ev]) (by simp [results, Tryz.results147, go_sem, h2, h3, c0, c1, c2]) rfl hR
def outF (t : Bool × Nat × Nat) : Bool × Nat × Nat := (t.1, t.2.1, den0 t.2.2)
theorem FCell.new (w : World) (g : FuncId) (cap : Array Value) (t : Nat) : FCell (w.alloc (.cells #[.func (.func g) #[] cap] t)) w.heap.size g cap :=
 ⟨by simp only [World.cell?, heap_alloc_new]; rfl, by rw [World.size_alloc]; omega⟩
theorem Var3.alloc4 (w : World) (o o' o'' : Obj) {x y z : Value} (t : Nat) (hx : NotInt x) (hy : NotInt y) (hz : NotInt z) : Var3 ((((w.alloc o).alloc o').alloc o'').alloc (.cells #[x, y, z] t)) (w.heap.size + 1 + 1 + 1) x y z := by
 have h := Var3.alloc (((w.alloc o).alloc o').alloc o'') t hx hy hz
 rwa [World.size_alloc, World.size_alloc, World.size_alloc] at h
theorem below_alloc4 (w : World) (o o' o'' o3 : Obj) : Below w.heap.size w ((((w.alloc o).alloc o').alloc o'').alloc o3) := (below_alloc3 w o o' o'').alloc (by rw [World.size_alloc, World.size_alloc, World.size_alloc]; omega) _
theorem bcode_bt {n d n' d' : Nat} {c : Int} {p : Prop} (hb : bcode n' d' c = 0) (h : large n d = false → large n' d' = false → c = 0 → p) (hL : large n d = false) : p := by
 unfold bcode at hb
 by_cases h' : large n' d' = true
 ·rw [if_pos h'] at hb; exact absurd hb (by decide)
 ·rw [if_neg h'] at hb; exact h hL (by simpa using h') hb
theorem FCell.new3 (w : World) (o o' : Obj) (g : FuncId) (cap : Array Value) (t : Nat) : FCell (((w.alloc o).alloc o').alloc (.cells #[.func (.func g) #[] cap] t)) (w.heap.size + 1 + 1) g cap := by
 have h := FCell.new ((w.alloc o).alloc o') g cap t
 rwa [World.size_alloc, World.size_alloc] at h
def ncode (n d n' d' : Nat) (c : Int) (t : Bool × Nat × Nat) : Int := ucode n d (bcode n' d' c) t
theorem binary_any (fid : FuncId) (cap : Array Value) (v : Value) (s : Bool) (n d : Nat) (y : Value) (s' : Bool) (n' d' : Nat) (c : Int) (t : Bool × Nat × Nat) (w : World) (h : ARep w v s n d) (hy : ARep w y s' n' d') (ht : TabOk w)
  (hfn : ∀ args W, (callFunc fid args).run Tryz.prog W = .ok (.enter fid args) W)
  (hop : large n d = false → large n' d' = false → ∀ W v' u', Below w.heap.size w W → FNorm W v' (frac s n (den1 d)) → FNorm W u' (frac s' n' (den1 d')) → Calls Tryz.prog fid (#[v', u'] ++ cap) W fun e w' => Below W.heap.size W w' ∧ FRes w' e c t)
  (hbt : large n d = false → large n' d' = false → c = 0 → t.2.1 < W32 ^ 1000000000 ∧ t.2.2 < W32 ^ 1000000000) :
  Calls Tryz.prog 147 #[v, y, .func (.func fid) #[] cap] w fun e w' => Below w.heap.size w w' ∧ FRes w' e (ncode n d n' d' c t) (outF t) := by
 have hA := hid h
 have hY := hid hy
 obtain ⟨vn, vd, rfl, ⟨p1, k1, c1, rfl, _⟩, ⟨p2, k2, c2, rfl, _⟩⟩ := h
 obtain ⟨un, ud, rfl, ⟨p3, k3, c3, rfl, _⟩, ⟨p4, k4, c4, rfl, _⟩⟩ := hy
 have HH := hid (And.intro ht (And.intro hfn (And.intro hop hbt)))
 clear ht hfn hop hbt
 obtain ⟨U, hU⟩ : ∃ U, U = ncode n d n' d' c t := ⟨_, rfl⟩
 rw [← hU]
 have HU := hid hU
 clear hU
 go_enter Tryz.func147, Tryz.ntmps147
 go_upto_region 1 with fail
 have hK := below_alloc4 w (.cells #[.bool s, .slice p1 k1 c1, .slice p2 k2 c2] 24) (.cells #[.bool s', .slice p3 k3 c3, .slice p4 k4 c4] 24) (.cells #[.func (.func fid) #[] cap] 146) (.cells #[.bool false, .slice none 0 0, .slice none 0 0] 24)
 have hVa := (((Var3.alloc w (x := .bool s) (y := .slice p1 k1 c1) (z := .slice p2 k2 c2) 24 trivial trivial trivial).below ((Below.refl _ _).alloc (Nat.le_refl _) (.cells #[.bool s', .slice p3 k3 c3, .slice p4 k4 c4] 24))).below ((Below.refl _ _).alloc (Nat.le_refl _) (.cells #[.func (.func fid) #[] cap] 146))).below ((Below.refl _ _).alloc (Nat.le_refl _) (.cells #[.bool false, .slice none 0 0, .slice none 0 0] 24))
 have hVb := ((Var3.alloc2 w (.cells #[.bool s, .slice p1 k1 c1, .slice p2 k2 c2] 24) (x := .bool s') (y := .slice p3 k3 c3) (z := .slice p4 k4 c4) 24 trivial trivial trivial).below ((Below.refl _ _).alloc (Nat.le_refl _) (.cells #[.func (.func fid) #[] cap] 146))).below ((Below.refl _ _).alloc (Nat.le_refl _) (.cells #[.bool false, .slice none 0 0, .slice none 0 0] 24))
 have hfc := (FCell.new3 w (.cells #[.bool s, .slice p1 k1 c1, .slice p2 k2 c2] 24) (.cells #[.bool s', .slice p3 k3 c3, .slice p4 k4 c4] 24) fid cap 146).below ((Below.refl _ _).alloc (Nat.le_refl _) (.cells #[.bool false, .slice none 0 0, .slice none 0 0] 24))
 have hVr := Var3.alloc4 w (.cells #[.bool s, .slice p1 k1 c1, .slice p2 k2 c2] 24) (.cells #[.bool s', .slice p3 k3 c3, .slice p4 k4 c4] 24) (.cells #[.func (.func fid) #[] cap] 146) (x := .bool false) (y := .slice none 0 0) (z := .slice none 0 0) 24 trivial trivial trivial
 generalize (((w.alloc (.cells #[.bool s, .slice p1 k1 c1, .slice p2 k2 c2] 24)).alloc (.cells #[.bool s', .slice p3 k3 c3, .slice p4 k4 c4] 24)).alloc (.cells #[.func (.func fid) #[] cap] 146)).alloc (.cells #[.bool false, .slice none 0 0, .slice none 0 0] 24) = W0 at *
 have HV : Hid (Var3 W0 (w.heap.size + 1 + 1 + 1) (.bool false) (.slice none 0 0) (.slice none 0 0) ∧ Below w.heap.size w W0) := hid ⟨hVr, hK⟩
 obtain ⟨x0, x1, x2, _⟩ := id hVa.cells
 have hcall := hid (unary_any 200 #[.pointer (some ⟨w.heap.size + 1, 0, none⟩), .pointer (some ⟨w.heap.size + 1 + 1, 0, none⟩)] _ s n d (bcode n' d' c) t W0 (hA.out.below hK) (HH.out.1.below hK) enter115
  (fun W v' hW hL hF => binary1_any fid cap (w.heap.size + 1) (w.heap.size + 1 + 1) v' _ _ s' n' d' c t W ((hY.out.below hK).below hW) (fun _ _ _ he => by injection he with he; injection he with he; simp only [List.cons.injEq, and_true] at he; obtain ⟨rfl, rfl, rfl⟩ := he; exact hVb.below hW) (hfc.below hW) hF ((HH.out.1.below hK).below hW) HH.out.2.1
   (fun W' v'' u'' hW' hL' hF' hG' => HH.out.2.2.1 hL hL' W' v'' u'' (hK.trans ((hW.trans (hW'.mono hW.size)).mono hK.size)) hF' hG')) (fun hL hb => bcode_bt hb HH.out.2.2.2 hL))
 clear hVa hVb hVr hK hfc
 go_wp2_with fail
 refine hcall.out.mono ?_
 rintro e w3 ⟨hB3, hR3⟩
 have hV3 := HV.out.1.below hB3
 obtain ⟨z0, z1, z2, r0, r1, r2⟩ := id hV3.cells
 have HV3 := hid (And.intro hV3 (HV.out.2.trans (hB3.mono HV.out.2.size)))
 clear x0 x1 x2 hcall HV hV3 hB3
 change FRes w3 e (ncode n d n' d' c t) (outF t) at hR3
 rw [← HU.out] at hR3
 rcases hR3 with ⟨hc, rfl⟩ | ⟨hc, sg', pa', ka', ca', pb', kb', cb', rfl, hF3⟩
 ·unfold zeroF
  go_wp2_with fail
  exact binary_ret rfl rfl (HV3.out.1.store trivial trivial trivial) ⟨below_set3 HV3.out.2 (by show w.heap.size ≤ w.heap.size + 1 + 1 + 1; omega), .inl ⟨hc, rfl⟩⟩
 ·subst hc
  go_wp2_with fail
  exact binary_ret rfl rfl (HV3.out.1.store trivial trivial trivial) ⟨below_set3 HV3.out.2 (by show w.heap.size ≤ w.heap.size + 1 + 1 + 1; omega), .inr ⟨rfl, _, _, _, _, _, _, _, rfl, hid (hF3.out.store3 HV3.out.1 _ _ _)⟩⟩
end Go.Proofs.YtheojajaefjecaaGreatDoor
namespace Go.Proofs.YtheojajaefjecaaGreatDoor
open Go.RowKit Dg
theorem nFromInt_ret {W : World} {B : Nat} {x y z : Value} {tm : Array Value} {R : Ending → World → Prop} (h2 : tm[2]?.getD undef = .pointer (some ⟨B, 0, none⟩)) (hV : Var3 W B x y z) (hR : R (.returned (.agg #[x, y, z])) W) :
  bodyPost Tryz.prog Tryz.f87 R .ret { tmps := tm, defers := [] } W := by
 obtain ⟨c0, c1, c2, _, _, _⟩ := hV.cells
 exact bodyPost_ret (v := .agg #[x, y, z]) (by simp [results, Tryz.results87, go_sem, h2, c0, c1, c2]) rfl hR
theorem nAdd_ret {W : World} {B : Nat} {x y z ev : Value} {tm : Array Value} {R : Ending → World → Prop} (h2 : tm[4]?.getD undef = .pointer (some ⟨B, 0, none⟩)) (h3 : tm[5]?.getD undef = ev) (hV : Var3 W B x y z)
  (hR : R (.returned (.tuple #[.agg #[x, y, z], ev])) W) : bodyPost Tryz.prog Tryz.f86 R .ret { tmps := tm, defers := [] } W := by
 obtain ⟨c0, c1, c2, _, _, _⟩ := hV.cells
 exact bodyPost_ret (v := .tuple #[.agg #[x, y, z], ev]) (by simp [results, Tryz.results86, go_sem, h2, h3, c0, c1, c2]) rfl hR
theorem big_small {m d : Nat} (hm : m < W32 ^ 3) (hd : d < W32 ^ 3) : big m d = false := by
 unfold big
 have h : W32 ^ 3 ≤ W32 ^ 64 := Nat.pow_le_pow_right W32_pos (by omega)
 exact decide_eq_false (by omega)
theorem lt_64 {m : Nat} (h : m < 18446744073709551616) : m < W32 ^ 3 := Nat.lt_of_lt_of_le h (by decide)
theorem nFromInt_any (n : Int) (w : World) (hlo : -9223372036854775808 ≤ n) (hhi : n < 9223372036854775808) :
  Calls Tryz.prog 87 #[.int .i64 n] w fun e w' => ∃ v', e = .returned v' ∧ FNorm w' v' (decide (n < 0), n.natAbs, 0) ∧ Below w.heap.size w w' := by
 have hm : n.natAbs < W32 ^ 3 := lt_64 (by omega)
 have H1 := hid (fun W => FracFromInt_any n W hlo hhi)
 have H2 : Hid (∀ (W : World) (v : Value), FNorm W v (decide (n < 0), n.natAbs, 1) → Calls Tryz.prog 152 #[v] W fun e w' => Below W.heap.size W w' ∧ FRes w' e 0 (decide (n < 0), n.natAbs, 0)) := by
  refine hid fun W v hv => ?_
  have h := FracRat_open v _ W hv (lt_big hm (by omega)) (lt_big (a := 3) (show 1 < W32 ^ 3 by decide) (by omega))
  simp only at h
  rw [big_small hm (by decide), if_neg (by decide), show den0 1 = 0 from rfl] at h
  exact h
 clear hm hlo hhi
 obtain ⟨t, ht⟩ : ∃ t, t = (decide (n < 0), n.natAbs, 0) := ⟨_, rfl⟩
 rw [← ht] at H2 ⊢
 clear ht
 go_enter Tryz.func87, Tryz.ntmps87
 go_upto_region 1 with fail
 have hV0 := Var3.alloc w (x := .bool false) (y := .slice none 0 0) (z := .slice none 0 0) 24 trivial trivial trivial
 have hK0 := (Below.refl w.heap.size w).alloc (Nat.le_refl _) (.cells #[.bool false, .slice none 0 0, .slice none 0 0] 24)
 generalize w.alloc (.cells #[.bool false, .slice none 0 0, .slice none 0 0] 24) = W0 at *
 go_wp2_with fail
 refine (H1.out W0).mono ?_
 rintro e w1 ⟨v1, rfl, hF1, hB1⟩
 have hF1' : FNorm w1 v1 (decide (n < 0), n.natAbs, 1) := hF1
 clear hF1
 go_wp2_with fail
 refine (H2.out w1 v1 hF1').mono ?_
 rintro e w2 ⟨hB2, hR2⟩
 rcases hR2 with ⟨h0, _⟩ | ⟨_, sg, pa, ka, ca, pb, kb, cb, rfl, hF⟩
 ·exact absurd rfl h0
 ·have hal := (Below.refl w2.heap.size w2).alloc (Nat.le_refl _) (.cells #[.bool sg, .slice pa ka ca, .slice pb kb cb] 24)
  have hVX := Var3.alloc w2 (x := .bool sg) (y := .slice pa ka ca) (z := .slice pb kb cb) 24 trivial trivial trivial
  have hV2 := ((hV0.below hB1).below hB2).below hal
  have hK2 := (hK0.trans ((hB1.mono hK0.size).trans (hB2.mono (Nat.le_trans hK0.size hB1.size)))).trans (hal.mono (Nat.le_trans hK0.size (Nat.le_trans hB1.size hB2.size)))
  have HP := hid (And.intro (hF.out.below hal) (And.intro hV2 hK2))
  clear hV0 hK0 hF1' hB1 hB2 hal hF hV2 hK2
  go_upto_region 2 with fail
  generalize w2.alloc (.cells #[.bool sg, .slice pa ka ca, .slice pb kb cb] 24) = W3 at *
  generalize w2.heap.size = X at *
  obtain ⟨x0, x1, x2, _⟩ := id hVX.cells
  obtain ⟨y0, y1, y2, z0, z1, z2⟩ := HP.out.2.1.cells
  clear hVX
  go_wp2_with fail
  exact nFromInt_ret rfl (HP.out.2.1.store trivial trivial trivial) ⟨_, rfl, HP.out.1.store3 HP.out.2.1 _ _ _, below_set3 HP.out.2.2 (Nat.le_refl _)⟩
theorem enter103 (args : Array Value) (w : World) : (callFunc 207 args).run Tryz.prog w = .ok (.enter 207 args) w := call_enter Tryz.func207 (by kernel_rfl) rfl args w
theorem enterAdd (args : Array Value) (w : World) : (callFunc 149 args).run Tryz.prog w = .ok (.enter 149 args) w := call_enter Tryz.func149 (by kernel_rfl) rfl args w
theorem combine_any (g : FuncId) (v : Value) (s : Bool) (n d : Nat) (y : Value) (s' : Bool) (n' d' : Nat) (t : Bool × Nat × Nat) (w : World) (h : ARep w v s n d) (hy : ARep w y s' n' d') (ht : TabOk w)
  (hfn : ∀ args W, (callFunc g args).run Tryz.prog W = .ok (.enter g args) W)
  (hop : large n d = false → large n' d' = false → ∀ W v' u', TabOk W → FNorm W v' (frac s n (den1 d)) → FNorm W u' (frac s' n' (den1 d')) → Calls Tryz.prog g #[v', u'] W fun e w' => ∃ v'', e = .returned v'' ∧ FNorm w' v'' t ∧ Below W.heap.size W w')
  (hbt : large n d = false → large n' d' = false → t.2.1 < W32 ^ 1000000000 ∧ t.2.2 < W32 ^ 1000000000) :
  Calls Tryz.prog 153 #[v, y, .func (.func g) #[] #[]] w fun e w' => Below w.heap.size w w' ∧ FRes w' e (ncode n d n' d' 0 t) (outF t) := by
 have hA := hid h
 have hY := hid hy
 obtain ⟨vn, vd, rfl, ⟨p1, k1, c1, rfl, _⟩, ⟨p2, k2, c2, rfl, _⟩⟩ := h
 obtain ⟨un, ud, rfl, ⟨p3, k3, c3, rfl, _⟩, ⟨p4, k4, c4, rfl, _⟩⟩ := hy
 have HH := hid (And.intro ht (And.intro hfn (And.intro hop hbt)))
 clear ht hfn hop hbt
 obtain ⟨U, hU⟩ : ∃ U, U = ncode n d n' d' 0 t := ⟨_, rfl⟩
 rw [← hU]
 have HU := hid hU
 clear hU
 go_enter Tryz.func153, Tryz.ntmps153
 go_upto_region 1 with fail
 have hK := below_alloc4 w (.cells #[.bool s, .slice p1 k1 c1, .slice p2 k2 c2] 24) (.cells #[.bool s', .slice p3 k3 c3, .slice p4 k4 c4] 24) (.cells #[.func (.func g) #[] #[]] 149) (.cells #[.bool false, .slice none 0 0, .slice none 0 0] 24)
 have hVa := (((Var3.alloc w (x := .bool s) (y := .slice p1 k1 c1) (z := .slice p2 k2 c2) 24 trivial trivial trivial).below ((Below.refl _ _).alloc (Nat.le_refl _) (.cells #[.bool s', .slice p3 k3 c3, .slice p4 k4 c4] 24))).below ((Below.refl _ _).alloc (Nat.le_refl _) (.cells #[.func (.func g) #[] #[]] 149))).below ((Below.refl _ _).alloc (Nat.le_refl _) (.cells #[.bool false, .slice none 0 0, .slice none 0 0] 24))
 have hVb := ((Var3.alloc2 w (.cells #[.bool s, .slice p1 k1 c1, .slice p2 k2 c2] 24) (x := .bool s') (y := .slice p3 k3 c3) (z := .slice p4 k4 c4) 24 trivial trivial trivial).below ((Below.refl _ _).alloc (Nat.le_refl _) (.cells #[.func (.func g) #[] #[]] 149))).below ((Below.refl _ _).alloc (Nat.le_refl _) (.cells #[.bool false, .slice none 0 0, .slice none 0 0] 24))
 have hfc := (FCell.new3 w (.cells #[.bool s, .slice p1 k1 c1, .slice p2 k2 c2] 24) (.cells #[.bool s', .slice p3 k3 c3, .slice p4 k4 c4] 24) g #[] 149).below ((Below.refl _ _).alloc (Nat.le_refl _) (.cells #[.bool false, .slice none 0 0, .slice none 0 0] 24))
 have hVr := Var3.alloc4 w (.cells #[.bool s, .slice p1 k1 c1, .slice p2 k2 c2] 24) (.cells #[.bool s', .slice p3 k3 c3, .slice p4 k4 c4] 24) (.cells #[.func (.func g) #[] #[]] 149) (x := .bool false) (y := .slice none 0 0) (z := .slice none 0 0) 24 trivial trivial trivial
 generalize (((w.alloc (.cells #[.bool s, .slice p1 k1 c1, .slice p2 k2 c2] 24)).alloc (.cells #[.bool s', .slice p3 k3 c3, .slice p4 k4 c4] 24)).alloc (.cells #[.func (.func g) #[] #[]] 149)).alloc (.cells #[.bool false, .slice none 0 0, .slice none 0 0] 24) = W0 at *
 have HV : Hid (Var3 W0 (w.heap.size + 1 + 1 + 1) (.bool false) (.slice none 0 0) (.slice none 0 0) ∧ Below w.heap.size w W0) := hid ⟨hVr, hK⟩
 obtain ⟨x0, x1, x2, _⟩ := id hVa.cells
 obtain ⟨y0, y1, y2, _⟩ := id hVb.cells
 have hcall := hid (binary_any 207 #[.pointer (some ⟨w.heap.size + 1 + 1, 0, none⟩)] _ s n d _ s' n' d' 0 t W0 (hA.out.below hK) (hY.out.below hK) (HH.out.1.below hK) enter103
  (fun h1 h2 W v' u' hW hF hG => combine1_any g (w.heap.size + 1 + 1) v' u' _ _ t W (hfc.below hW) hF hG ((HH.out.1.below hK).below hW) HH.out.2.1 (HH.out.2.2.1 h1 h2)) (fun h1 h2 _ => HH.out.2.2.2 h1 h2))
 clear hVa hVb hVr hK hfc
 go_wp2_with fail
 refine hcall.out.mono ?_
 rintro e w3 ⟨hB3, hR3⟩
 have hV3 := HV.out.1.below hB3
 obtain ⟨z0, z1, z2, r0, r1, r2⟩ := id hV3.cells
 have HV3 := hid (And.intro hV3 (HV.out.2.trans (hB3.mono HV.out.2.size)))
 clear x0 x1 x2 y0 y1 y2 hcall HV hV3 hB3
 rw [← HU.out] at hR3
 rcases hR3 with ⟨hc, rfl⟩ | ⟨hc, sg', pa', ka', ca', pb', kb', cb', rfl, hF3⟩
 ·unfold zeroF
  go_wp2_with fail
  exact combine_ret rfl rfl (HV3.out.1.store trivial trivial trivial) ⟨below_set3 HV3.out.2 (by show w.heap.size ≤ w.heap.size + 1 + 1 + 1; omega), .inl ⟨hc, rfl⟩⟩
 ·subst hc
  go_wp2_with fail
  exact combine_ret rfl rfl (HV3.out.1.store trivial trivial trivial) ⟨below_set3 HV3.out.2 (by show w.heap.size ≤ w.heap.size + 1 + 1 + 1; omega), .inr ⟨rfl, _, _, _, _, _, _, _, rfl, hid (hF3.out.store3 HV3.out.1 _ _ _)⟩⟩
theorem lt_4m {x a : Nat} (h : x < W32 ^ a) (hab : a ≤ 4000000) : x < W32 ^ 4000000 := by
 generalize 4000000 = b at *
 exact Nat.lt_of_lt_of_le h (Nat.pow_le_pow_right W32_pos hab)
theorem large_bd {n d : Nat} (h : large n d = false) : n / Nat.gcd n (den1 d) < W32 ^ 64 ∧ den1 d / Nat.gcd n (den1 d) < W32 ^ 64 := by
 unfold large at h
 rw [Bool.or_eq_false_iff] at h
 have h2 := h.2
 unfold big at h2
 have := of_decide_eq_false h2
 constructor <;> omega
theorem gcd_den_pos (n d : Nat) : 0 < den1 d / Nat.gcd n (den1 d) :=
 Nat.div_pos (Nat.le_of_dvd (den1_pos d) (Nat.gcd_dvd_right _ _)) (Nat.gcd_pos_of_pos_right _ (den1_pos d))
theorem frac_bd {s : Bool} {n d a : Nat} (hn : n < W32 ^ a) (hd : d < W32 ^ a) (ha : a ≤ 1000000000) : (frac s n d).2.1 < W32 ^ 1000000000 ∧ (frac s n d).2.2 < W32 ^ 1000000000 :=
 ⟨div_9 ha hn _, div_9 ha hd _⟩
theorem fadd_bd {a b : Bool × Nat × Nat} (h1 : a.2.1 < W32 ^ 64) (h2 : a.2.2 < W32 ^ 64) (h3 : b.2.1 < W32 ^ 64) (h4 : b.2.2 < W32 ^ 64) : (fadd a b).2.1 < W32 ^ 1000000000 ∧ (fadd a b).2.2 < W32 ^ 1000000000 := by
 have hx : a.2.1 * b.2.2 < W32 ^ 128 := lt_mul h1 h4 (by omega)
 have hy : b.2.1 * a.2.2 < W32 ^ 128 := lt_mul h3 h2 (by omega)
 have hd : a.2.2 * b.2.2 < W32 ^ 129 := lt_pow (lt_mul (c := 128) h2 h4 (by omega)) (by omega)
 unfold fadd
 split
 ·exact frac_bd (a := 129) (lt_add hx hy (by omega)) hd (by omega)
 ·split
  ·exact frac_bd (a := 129) (lt_pow (Nat.lt_of_le_of_lt (Nat.sub_le _ _) hy) (by omega)) hd (by omega)
  ·exact frac_bd (a := 129) (lt_pow (Nat.lt_of_le_of_lt (Nat.sub_le _ _) hx) (by omega)) hd (by omega)
theorem den_cop (n d : Nat) : Nat.gcd (n / Nat.gcd n (den1 d)) (den1 d / Nat.gcd n (den1 d)) = 1 := Nat.coprime_div_gcd_div_gcd (Nat.gcd_pos_of_pos_right _ (den1_pos d))
theorem nAdd_any (v : Value) (s : Bool) (n d : Nat) (y : Value) (s' : Bool) (n' d' : Nat) (w : World) (h : ARep w v s n d) (hy : ARep w y s' n' d') (ht : TabOk w) :
  Calls Tryz.prog 86 #[v, y] w fun e w' => Below w.heap.size w w' ∧ FRes w' e (ncode n d n' d' 0 (fadd (frac s n (den1 d)) (frac s' n' (den1 d')))) (outF (fadd (frac s n (den1 d)) (frac s' n' (den1 d')))) := by
 have hA := hid h
 have hY := hid hy
 obtain ⟨vn, vd, rfl, ⟨p1, k1, c1, rfl, _⟩, ⟨p2, k2, c2, rfl, _⟩⟩ := h
 obtain ⟨un, ud, rfl, ⟨p3, k3, c3, rfl, _⟩, ⟨p4, k4, c4, rfl, _⟩⟩ := hy
 have hcall : Hid (∀ W, ARep W (.agg #[.bool s, .slice p1 k1 c1, .slice p2 k2 c2]) s n d → ARep W (.agg #[.bool s', .slice p3 k3 c3, .slice p4 k4 c4]) s' n' d' → TabOk W →
   Calls Tryz.prog 153 #[.agg #[.bool s, .slice p1 k1 c1, .slice p2 k2 c2], .agg #[.bool s', .slice p3 k3 c3, .slice p4 k4 c4], .func (.func 149) #[] #[]] W fun e w' => Below W.heap.size W w' ∧ FRes w' e (ncode n d n' d' 0 (fadd (frac s n (den1 d)) (frac s' n' (den1 d')))) (outF (fadd (frac s n (den1 d)) (frac s' n' (den1 d'))))) :=
  hid fun W h1 h2 h3 => combine_any _ _ s n d _ s' n' d' _ W h1 h2 h3 enterAdd
   (fun hL hL' W' v' u' hT hF hG => FracAdd_any v' u' _ _ _ _ _ _ W' hF hG (lt_4m (large_bd hL).1 (by omega)) (lt_4m (large_bd hL).2 (by omega)) (lt_4m (large_bd hL').1 (by omega)) (lt_4m (large_bd hL').2 (by omega)) (gcd_den_pos n d) (gcd_den_pos n' d') hT (den_cop n d) (den_cop n' d'))
   (fun hL hL' => fadd_bd (large_bd hL).1 (large_bd hL).2 (large_bd hL').1 (large_bd hL').2)
 obtain ⟨U, hU⟩ : ∃ U, U = ncode n d n' d' 0 (fadd (frac s n (den1 d)) (frac s' n' (den1 d'))) := ⟨_, rfl⟩
 obtain ⟨T, hT⟩ : ∃ T, T = outF (fadd (frac s n (den1 d)) (frac s' n' (den1 d'))) := ⟨_, rfl⟩
 rw [← hU, ← hT] at hcall ⊢
 clear hU hT
 have HT := hid ht
 clear ht
 go_enter Tryz.func86, Tryz.ntmps86
 go_upto_region 1 with fail
 have hK := below_alloc3 w (.cells #[.bool s, .slice p1 k1 c1, .slice p2 k2 c2] 24) (.cells #[.bool s', .slice p3 k3 c3, .slice p4 k4 c4] 24) (.cells #[.bool false, .slice none 0 0, .slice none 0 0] 24)
 have hVa := ((Var3.alloc w (x := .bool s) (y := .slice p1 k1 c1) (z := .slice p2 k2 c2) 24 trivial trivial trivial).below ((Below.refl _ _).alloc (Nat.le_refl _) (.cells #[.bool s', .slice p3 k3 c3, .slice p4 k4 c4] 24))).below ((Below.refl _ _).alloc (Nat.le_refl _) (.cells #[.bool false, .slice none 0 0, .slice none 0 0] 24))
 have hVb := (Var3.alloc2 w (.cells #[.bool s, .slice p1 k1 c1, .slice p2 k2 c2] 24) (x := .bool s') (y := .slice p3 k3 c3) (z := .slice p4 k4 c4) 24 trivial trivial trivial).below ((Below.refl _ _).alloc (Nat.le_refl _) (.cells #[.bool false, .slice none 0 0, .slice none 0 0] 24))
 have hVr := Var3.alloc3 w (.cells #[.bool s, .slice p1 k1 c1, .slice p2 k2 c2] 24) (.cells #[.bool s', .slice p3 k3 c3, .slice p4 k4 c4] 24) (x := .bool false) (y := .slice none 0 0) (z := .slice none 0 0) 24 trivial trivial trivial
 generalize ((w.alloc (.cells #[.bool s, .slice p1 k1 c1, .slice p2 k2 c2] 24)).alloc (.cells #[.bool s', .slice p3 k3 c3, .slice p4 k4 c4] 24)).alloc (.cells #[.bool false, .slice none 0 0, .slice none 0 0] 24) = W0 at *
 have HV : Hid (Var3 W0 (w.heap.size + 1 + 1) (.bool false) (.slice none 0 0) (.slice none 0 0) ∧ Below w.heap.size w W0) := hid ⟨hVr, hK⟩
 obtain ⟨x0, x1, x2, _⟩ := id hVa.cells
 obtain ⟨y0, y1, y2, _⟩ := id hVb.cells
 have hcl := hid (hcall.out W0 (hA.out.below hK) (hY.out.below hK) (HT.out.below hK))
 clear hVa hVb hVr hK hcall
 go_wp2_with fail
 refine hcl.out.mono ?_
 rintro e w3 ⟨hB3, hR3⟩
 have hV3 := HV.out.1.below hB3
 obtain ⟨z0, z1, z2, r0, r1, r2⟩ := id hV3.cells
 have HV3 := hid (And.intro hV3 (HV.out.2.trans (hB3.mono HV.out.2.size)))
 clear x0 x1 x2 y0 y1 y2 hcl HV hV3 hB3
 rcases hR3 with ⟨hc, rfl⟩ | ⟨hc, sg', pa', ka', ca', pb', kb', cb', rfl, hF3⟩
 ·unfold zeroF
  go_wp2_with fail
  exact nAdd_ret rfl rfl (HV3.out.1.store trivial trivial trivial) ⟨below_set3 HV3.out.2 (by show w.heap.size ≤ w.heap.size + 1 + 1; omega), .inl ⟨hc, rfl⟩⟩
 ·subst hc
  go_wp2_with fail
  exact nAdd_ret rfl rfl (HV3.out.1.store trivial trivial trivial) ⟨below_set3 HV3.out.2 (by show w.heap.size ≤ w.heap.size + 1 + 1; omega), .inr ⟨rfl, _, _, _, _, _, _, _, rfl, hid (hF3.out.store3 HV3.out.1 _ _ _)⟩⟩
end Go.Proofs.YtheojajaefjecaaGreatDoor
namespace Go.Proofs.YtheojajaefjecaaGreatDoor
open Go.RowKit Dg
def fmul (a b : Bool × Nat × Nat) : Bool × Nat × Nat := frac (a.1 != b.1) (a.2.1 * b.2.1) (a.2.2 * b.2.2)
def fneg (a : Bool × Nat × Nat) : Bool × Nat × Nat := (!a.1 && decide (a.2.1 ≠ 0), a.2.1, a.2.2)
theorem held6 {N : Nat} {W0 W : World} {a b c d e f : Prop} (h : a ∧ b ∧ c ∧ d ∧ e ∧ f ∧ Hid (Below N W0 W)) : Below N W0 W := h.2.2.2.2.2.2.out
theorem FracMul_ret {W : World} {B : Nat} {x y z : Value} {tm : Array Value} {R : Ending → World → Prop} (h2 : tm[4]?.getD undef = .pointer (some ⟨B, 0, none⟩)) (hV : Var3 W B x y z) (hR : R (.returned (.agg #[x, y, z])) W) :
  bodyPost Tryz.prog Tryz.f170 R .ret { tmps := tm, defers := [] } W := by
 obtain ⟨c0, c1, c2, _, _, _⟩ := hV.cells
 exact bodyPost_ret (v := .agg #[x, y, z]) (by simp [results, Tryz.results170, go_sem, h2, c0, c1, c2]) rfl hR
theorem FracSub_ret {W : World} {B : Nat} {x y z : Value} {tm : Array Value} {R : Ending → World → Prop} (h2 : tm[4]?.getD undef = .pointer (some ⟨B, 0, none⟩)) (hV : Var3 W B x y z) (hR : R (.returned (.agg #[x, y, z])) W) :
  bodyPost Tryz.prog Tryz.f154 R .ret { tmps := tm, defers := [] } W := by
 obtain ⟨c0, c1, c2, _, _, _⟩ := hV.cells
 exact bodyPost_ret (v := .agg #[x, y, z]) (by simp [results, Tryz.results154, go_sem, h2, c0, c1, c2]) rfl hR
theorem FracDiv_ret {W : World} {B : Nat} {x y z ev : Value} {tm : Array Value} {R : Ending → World → Prop} (h2 : tm[4]?.getD undef = .pointer (some ⟨B, 0, none⟩)) (h3 : tm[5]?.getD undef = ev) (hV : Var3 W B x y z)
  (hR : R (.returned (.tuple #[.agg #[x, y, z], ev])) W) : bodyPost Tryz.prog Tryz.f150 R .ret { tmps := tm, defers := [] } W := by
 obtain ⟨c0, c1, c2, _, _, _⟩ := hV.cells
 exact bodyPost_ret (v := .tuple #[.agg #[x, y, z], ev]) (by simp [results, Tryz.results150, go_sem, h2, h3, c0, c1, c2]) rfl hR
theorem FracMul_any (va vb : Value) (s1 : Bool) (n1 d1 : Nat) (s2 : Bool) (n2 d2 : Nat) (w : World) (ha : FRep w va s1 n1 d1) (hb : FRep w vb s2 n2 d2)
  (hn1 : n1 < W32 ^ 4000000) (hd1 : d1 < W32 ^ 4000000) (hn2 : n2 < W32 ^ 4000000) (hd2 : d2 < W32 ^ 4000000) (h1 : 0 < d1) (h2 : 0 < d2) (ht : TabOk w) :
  Calls Tryz.prog 170 #[va, vb] w fun e w' => ∃ v', e = .returned v' ∧ FNorm w' v' (fmul (s1, n1, d1) (s2, n2, d2)) ∧ Below w.heap.size w w' := by
 obtain ⟨vn1, vd1, rfl, hrn1, hrd1⟩ := ha
 obtain ⟨vn2, vd2, rfl, hrn2, hrd2⟩ := hb
 have HR := hid (And.intro (And.intro hrn1 hrd1) (And.intro hrn2 hrd2))
 obtain ⟨p1, k1, c1, rfl, _, _, _⟩ := hrn1
 obtain ⟨p2, k2, c2, rfl, _, _, _⟩ := hrd1
 obtain ⟨p3, k3, c3, rfl, _, _, _⟩ := hrn2
 obtain ⟨p4, k4, c4, rfl, _, _, _⟩ := hrd2
 have HB := hid (And.intro (And.intro (lt_big hn1 (by omega)) (lt_big hd1 (by omega))) (And.intro (lt_big hn2 (by omega)) (lt_big hd2 (by omega))))
 have HX := hid (And.intro (lt_mul (c := 9000000) hn1 hn2 (by omega)) (lt_mul (c := 9000000) hd1 hd2 (by omega)))
 have hD0 : 0 < d1 * d2 := Nat.mul_pos h1 h2
 have HT := hid (And.intro ht hD0)
 clear hn1 hd1 hn2 hd2 h1 h2 ht hD0
 show Calls _ _ _ _ fun e w' => ∃ v', e = .returned v' ∧ FNorm w' v' (frac (s1 != s2) (n1 * n2) (d1 * d2)) ∧ Below w.heap.size w w'
 go_enter Tryz.func170, Tryz.ntmps170
 go_wp2_with fail
 have hVa : Var3 (w.alloc (.cells #[.bool s1, .slice p1 k1 c1, .slice p2 k2 c2] 55)) w.heap.size (.bool s1) (.slice p1 k1 c1) (.slice p2 k2 c2) := Var3.alloc w 55 trivial trivial trivial
 have hVb := Var3.alloc2 w (.cells #[.bool s1, .slice p1 k1 c1, .slice p2 k2 c2] 55) (x := .bool s2) (y := .slice p3 k3 c3) (z := .slice p4 k4 c4) 55 trivial trivial trivial
 have hVr := Var3.alloc3 w (.cells #[.bool s1, .slice p1 k1 c1, .slice p2 k2 c2] 55) (.cells #[.bool s2, .slice p3 k3 c3, .slice p4 k4 c4] 55) (x := .bool false) (y := .slice none 0 0) (z := .slice none 0 0) 55 trivial trivial trivial
 have hB0 := below_alloc3 w (.cells #[.bool s1, .slice p1 k1 c1, .slice p2 k2 c2] 55) (.cells #[.bool s2, .slice p3 k3 c3, .slice p4 k4 c4] 55) (.cells #[.bool false, .slice none 0 0, .slice none 0 0] 55)
 have hVa' := (hVa.below ((Below.refl _ _).alloc (Nat.le_refl _) (.cells #[.bool s2, .slice p3 k3 c3, .slice p4 k4 c4] 55))).below ((Below.refl _ _).alloc (Nat.le_refl _) (.cells #[.bool false, .slice none 0 0, .slice none 0 0] 55))
 have hVb' := hVb.below ((Below.refl _ _).alloc (Nat.le_refl _) (.cells #[.bool false, .slice none 0 0, .slice none 0 0] 55))
 clear hVa hVb
 generalize hW0 : ((w.alloc (.cells #[.bool s1, .slice p1 k1 c1, .slice p2 k2 c2] 55)).alloc (.cells #[.bool s2, .slice p3 k3 c3, .slice p4 k4 c4] 55)).alloc (.cells #[.bool false, .slice none 0 0, .slice none 0 0] 55) = W0 at *
 clear hW0
 have hn2 : w.heap.size + 1 + 1 ≤ W0.heap.size := by obtain ⟨_, h0, _⟩ := hVr; exact Nat.le_of_lt (Array.getElem?_eq_some_iff.1 h0).1
 have HV := hid (And.intro hVr hB0)
 have HS : Hid (∀ w', Below (w.heap.size + 1 + 1) W0 w' → (w'.cell? ⟨w.heap.size, 0, none⟩ = some (.bool s1) ∧ w'.cell? ⟨w.heap.size, 1, none⟩ = some (.slice p1 k1 c1) ∧ w'.cell? ⟨w.heap.size, 2, none⟩ = some (.slice p2 k2 c2) ∧ w'.cell? ⟨w.heap.size + 1, 0, none⟩ = some (.bool s2) ∧ w'.cell? ⟨w.heap.size + 1, 1, none⟩ = some (.slice p3 k3 c3) ∧ w'.cell? ⟨w.heap.size + 1, 2, none⟩ = some (.slice p4 k4 c4) ∧ Hid (Below (w.heap.size + 1 + 1) W0 w'))) :=
  hid fun w' hb => ⟨(bcellN hb _ _ (by omega)).trans hVa'.cells.1, (bcellN hb _ _ (by omega)).trans hVa'.cells.2.1, (bcellN hb _ _ (by omega)).trans hVa'.cells.2.2.1, (bcellN hb _ _ (by omega)).trans hVb'.cells.1, (bcellN hb _ _ (by omega)).trans hVb'.cells.2.1, (bcellN hb _ _ (by omega)).trans hVb'.cells.2.2.1, hid hb⟩
 have hMx := hid (fun (W : World) (hW : Below W0.heap.size W0 W) => Mul_any _ _ n1 n2 W ((HR.out.1.1.below hB0).below hW) ((HR.out.2.1.below hB0).below hW) HB.out.1.1 HB.out.2.1)
 have hMd := hid (fun (W : World) (hW : Below W0.heap.size W0 W) => Mul_any _ _ d1 d2 W ((HR.out.1.2.below hB0).below hW) ((HR.out.2.2.below hB0).below hW) HB.out.1.2 HB.out.2.2)
 have hNew := hid (fun (W : World) (vN vD : Value) (hN : Rep W32 W vN (n1 * n2)) (hD : Rep W32 W vD (d1 * d2)) (hW : Below W0.heap.size W0 W) => fopen (t := frac (s1 != s2) (n1 * n2) (d1 * d2)) (New_any (s1 != s2) vN vD (n1 * n2) (d1 * d2) W hN hD (lt_20 HX.out.1 (by omega)) (lt_20 HX.out.2 (by omega)) HT.out.2 ((HT.out.1.below hB0).below hW)))
 clear hVa' hVb' hVr hB0
 go_region_held3 (fun w' => w'.cell? ⟨w.heap.size, 0, none⟩ = some (.bool s1) ∧ w'.cell? ⟨w.heap.size, 1, none⟩ = some (.slice p1 k1 c1) ∧ w'.cell? ⟨w.heap.size, 2, none⟩ = some (.slice p2 k2 c2) ∧ w'.cell? ⟨w.heap.size + 1, 0, none⟩ = some (.bool s2) ∧ w'.cell? ⟨w.heap.size + 1, 1, none⟩ = some (.slice p3 k3 c3) ∧ w'.cell? ⟨w.heap.size + 1, 2, none⟩ = some (.slice p4 k4 c4) ∧ Hid (Below (w.heap.size + 1 + 1) W0 w'))
  (first | exact HS.out _ (Below.refl _ _).drew | (exact HS.out _ (by assumption)) | exact HS.out _ (below_set3 (by assumption) (Nat.le_refl _)))
  (first
   | (go_at_call_of 204 k1; (first | (refine (hMx.out _ (Below.refl _ _).drew).mono ?_; rintro e wx ⟨vx, rfl, hRx, hBx⟩; have hKx := held_any (Below.refl W0.heap.size W0).drew hBx) | (refine (hMx.out _ hKd).mono ?_; rintro e wx ⟨vx, rfl, hRx, hBx⟩; have hKx := held_any hKd hBx)); have hKx2 := below_pre hKx hn2)
   | (go_at_call_of 204 k2; (first | (refine (hMd.out _ (Below.refl _ _).drew).mono ?_; rintro e wd ⟨vd, rfl, hRd, hBd⟩; have hKd := held_any (Below.refl W0.heap.size W0).drew hBd) | (refine (hMd.out _ hKx).mono ?_; rintro e wd ⟨vd, rfl, hRd, hBd⟩; have hKd := held_any hKx hBd)); have hKd2 := below_pre hKd hn2)
   | (go_at_call 165; (first | (refine (hNew.out _ _ _ (hRx.below hBd) hRd hKd).mono ?_; rintro e wf ⟨sg, pa, ka, ca, pb, kb, cb, rfl, HF, hBf⟩; have hKf := held_any hKd hBf) | (refine (hNew.out _ _ _ hRx (hRd.below hBx) hKx).mono ?_; rintro e wf ⟨sg, pa, ka, ca, pb, kb, cb, rfl, HF, hBf⟩; have hKf := held_any hKx hBf)); have hKf2 := below_pre hKf hn2; obtain ⟨x0, x1, x2, y0, y1, y2⟩ := (HV.out.1.below hKf).cells))
 all_goals
  rename_i hHeld
  clear hHeld
  go_wp2_with fail
  exact FracMul_ret rfl ((HV.out.1.below hKf).store trivial trivial trivial) ⟨_, rfl, HF.out.store3 (HV.out.1.below hKf) _ _ _, below_set3 (HV.out.2.trans (hKf.mono HV.out.2.size)) (by show w.heap.size ≤ w.heap.size + 1 + 1; omega)⟩
theorem FracSub_any (va vb : Value) (s1 : Bool) (n1 d1 : Nat) (s2 : Bool) (n2 d2 : Nat) (w : World) (ha : FRep w va s1 n1 d1) (hb : FRep w vb s2 n2 d2)
  (hn1 : n1 < W32 ^ 4000000) (hd1 : d1 < W32 ^ 4000000) (hn2 : n2 < W32 ^ 4000000) (hd2 : d2 < W32 ^ 4000000) (h1 : 0 < d1) (h2 : 0 < d2) (ht : TabOk w) (hc1 : Nat.gcd n1 d1 = 1) (hc2 : Nat.gcd n2 d2 = 1) :
  Calls Tryz.prog 154 #[va, vb] w fun e w' => ∃ v', e = .returned v' ∧ FNorm w' v' (fadd (s1, n1, d1) (fneg (s2, n2, d2))) ∧ Below w.heap.size w w' := by
 have HA := hid ha
 have HBb := hid hb
 obtain ⟨vn1, vd1, rfl, ⟨p1, k1, c1, rfl, _⟩, ⟨p2, k2, c2, rfl, _⟩⟩ := ha
 obtain ⟨vn2, vd2, rfl, ⟨p3, k3, c3, rfl, _⟩, ⟨p4, k4, c4, rfl, _⟩⟩ := hb
 have HN := hid (fun (W : World) (hW : Below w.heap.size w W) => fopen (t := fneg (s2, n2, d2)) (Neg_any (.agg #[.bool s2, .slice p3 k3 c3, .slice p4 k4 c4]) s2 n2 d2 W (HBb.out.below hW)))
 have HD := hid (fun (W : World) (v' : Value) (hW : Below w.heap.size w W) (hF : FNorm W v' (fneg (s2, n2, d2))) => fopen (t := fadd (s1, n1, d1) (fneg (s2, n2, d2))) (FracAdd_any (.agg #[.bool s1, .slice p1 k1 c1, .slice p2 k2 c2]) v' s1 n1 d1 (fneg (s2, n2, d2)).1 n2 d2 W (HA.out.below hW) hF hn1 hd1 hn2 hd2 h1 h2 (ht.below hW) hc1 hc2))
 clear hn1 hd1 hn2 hd2 h1 h2 ht hc1 hc2
 obtain ⟨t, htt⟩ : ∃ t, t = fadd (s1, n1, d1) (fneg (s2, n2, d2)) := ⟨_, rfl⟩
 rw [← htt] at HD ⊢
 clear htt
 obtain ⟨u, hu⟩ : ∃ u, u = fneg (s2, n2, d2) := ⟨_, rfl⟩
 rw [← hu] at HD HN
 clear hu
 go_enter Tryz.func154, Tryz.ntmps154
 go_wp2_with fail
 have hVa : Var3 (w.alloc (.cells #[.bool s1, .slice p1 k1 c1, .slice p2 k2 c2] 55)) w.heap.size (.bool s1) (.slice p1 k1 c1) (.slice p2 k2 c2) := Var3.alloc w 55 trivial trivial trivial
 have hVb := Var3.alloc2 w (.cells #[.bool s1, .slice p1 k1 c1, .slice p2 k2 c2] 55) (x := .bool s2) (y := .slice p3 k3 c3) (z := .slice p4 k4 c4) 55 trivial trivial trivial
 have hVr := Var3.alloc3 w (.cells #[.bool s1, .slice p1 k1 c1, .slice p2 k2 c2] 55) (.cells #[.bool s2, .slice p3 k3 c3, .slice p4 k4 c4] 55) (x := .bool false) (y := .slice none 0 0) (z := .slice none 0 0) 55 trivial trivial trivial
 have hB0 := below_alloc3 w (.cells #[.bool s1, .slice p1 k1 c1, .slice p2 k2 c2] 55) (.cells #[.bool s2, .slice p3 k3 c3, .slice p4 k4 c4] 55) (.cells #[.bool false, .slice none 0 0, .slice none 0 0] 55)
 have hVa' := (hVa.below ((Below.refl _ _).alloc (Nat.le_refl _) (.cells #[.bool s2, .slice p3 k3 c3, .slice p4 k4 c4] 55))).below ((Below.refl _ _).alloc (Nat.le_refl _) (.cells #[.bool false, .slice none 0 0, .slice none 0 0] 55))
 have hVb' := hVb.below ((Below.refl _ _).alloc (Nat.le_refl _) (.cells #[.bool false, .slice none 0 0, .slice none 0 0] 55))
 clear hVa hVb
 generalize hW0 : ((w.alloc (.cells #[.bool s1, .slice p1 k1 c1, .slice p2 k2 c2] 55)).alloc (.cells #[.bool s2, .slice p3 k3 c3, .slice p4 k4 c4] 55)).alloc (.cells #[.bool false, .slice none 0 0, .slice none 0 0] 55) = W0 at *
 clear hW0
 have hn2 : w.heap.size + 1 + 1 ≤ W0.heap.size := by obtain ⟨_, h0, _⟩ := hVr; exact Nat.le_of_lt (Array.getElem?_eq_some_iff.1 h0).1
 have HV := hid (And.intro hVr hB0)
 have HS : Hid (∀ w', Below (w.heap.size + 1 + 1) W0 w' → (w'.cell? ⟨w.heap.size, 0, none⟩ = some (.bool s1) ∧ w'.cell? ⟨w.heap.size, 1, none⟩ = some (.slice p1 k1 c1) ∧ w'.cell? ⟨w.heap.size, 2, none⟩ = some (.slice p2 k2 c2) ∧ w'.cell? ⟨w.heap.size + 1, 0, none⟩ = some (.bool s2) ∧ w'.cell? ⟨w.heap.size + 1, 1, none⟩ = some (.slice p3 k3 c3) ∧ w'.cell? ⟨w.heap.size + 1, 2, none⟩ = some (.slice p4 k4 c4) ∧ Hid (Below (w.heap.size + 1 + 1) W0 w'))) :=
  hid fun w' hb => ⟨(bcellN hb _ _ (by omega)).trans hVa'.cells.1, (bcellN hb _ _ (by omega)).trans hVa'.cells.2.1, (bcellN hb _ _ (by omega)).trans hVa'.cells.2.2.1, (bcellN hb _ _ (by omega)).trans hVb'.cells.1, (bcellN hb _ _ (by omega)).trans hVb'.cells.2.1, (bcellN hb _ _ (by omega)).trans hVb'.cells.2.2.1, hid hb⟩
 clear hVa' hVb' hVr hB0
 go_region_held3 (fun w' => w'.cell? ⟨w.heap.size, 0, none⟩ = some (.bool s1) ∧ w'.cell? ⟨w.heap.size, 1, none⟩ = some (.slice p1 k1 c1) ∧ w'.cell? ⟨w.heap.size, 2, none⟩ = some (.slice p2 k2 c2) ∧ w'.cell? ⟨w.heap.size + 1, 0, none⟩ = some (.bool s2) ∧ w'.cell? ⟨w.heap.size + 1, 1, none⟩ = some (.slice p3 k3 c3) ∧ w'.cell? ⟨w.heap.size + 1, 2, none⟩ = some (.slice p4 k4 c4) ∧ Hid (Below (w.heap.size + 1 + 1) W0 w'))
  (first | exact HS.out _ (Below.refl _ _).drew | (exact HS.out _ (by assumption)) | exact HS.out _ (below_set3 (by assumption) (Nat.le_refl _)))
  (first
   | (go_at_call 197; refine (HN.out _ (HV.out.2.trans ((Below.refl W0.heap.size W0).drew.mono HV.out.2.size))).mono ?_; rintro e wx ⟨sx, px, kx, cx, qx, lx, dx, rfl, hRx, hBx⟩; have hKx := held_any (Below.refl W0.heap.size W0).drew hBx; have hKx2 := below_pre hKx hn2)
   | (go_at_call 149; refine (HD.out _ _ (HV.out.2.trans (hKx.mono HV.out.2.size)) hRx.out).mono ?_; rintro e wf ⟨sg, pa, ka, ca, pb, kb, cb, rfl, HF, hBf⟩; have hKf := held_any hKx hBf; have hKf2 := below_pre hKf hn2; obtain ⟨x0, x1, x2, y0, y1, y2⟩ := (HV.out.1.below hKf).cells))
 rename_i hHeld
 clear hHeld
 go_wp2_with fail
 exact FracSub_ret rfl ((HV.out.1.below hKf).store trivial trivial trivial) ⟨_, rfl, HF.out.store3 (HV.out.1.below hKf) _ _ _, below_set3 (HV.out.2.trans (hKf.mono HV.out.2.size)) (by show w.heap.size ≤ w.heap.size + 1 + 1; omega)⟩
theorem FracDiv_any (va vb : Value) (s1 : Bool) (n1 d1 : Nat) (s2 : Bool) (n2 d2 : Nat) (w : World) (ha : FRep w va s1 n1 d1) (hb : FRep w vb s2 n2 d2)
  (hn1 : n1 < W32 ^ 4000000) (hd1 : d1 < W32 ^ 4000000) (hn2 : n2 < W32 ^ 4000000) (hd2 : d2 < W32 ^ 4000000) (h1 : 0 < d1) (h2 : n2 = 0 → s2 = false) (ht : TabOk w) :
  Calls Tryz.prog 150 #[va, vb] w fun e w' => Below w.heap.size w w' ∧ FRes w' e (if n2 = 0 then 10 else 0) (fmul (s1, n1, d1) (s2, d2, n2)) := by
 have HA := hid ha
 have HBb := hid hb
 obtain ⟨vn1, vd1, rfl, ⟨p1, k1, c1, rfl, _⟩, ⟨p2, k2, c2, rfl, _⟩⟩ := ha
 obtain ⟨vn2, vd2, rfl, ⟨p3, k3, c3, rfl, _⟩, ⟨p4, k4, c4, rfl, _⟩⟩ := hb
 have HSg := hid (fun (W : World) (hW : Below w.heap.size w W) => Sign_any (.agg #[.bool s2, .slice p3 k3 c3, .slice p4 k4 c4]) s2 n2 d2 W (HBb.out.below hW))
 have HM := hid (fun (W : World) (h0 : n2 ≠ 0) (hW : Below w.heap.size w W) => fopen (t := fmul (s1, n1, d1) (s2, d2, n2)) (FracMul_any (.agg #[.bool s1, .slice p1 k1 c1, .slice p2 k2 c2]) (.agg #[.bool s2, .slice p4 k4 c4, .slice p3 k3 c3]) s1 n1 d1 s2 d2 n2 W (HA.out.below hW)
  (by obtain ⟨vn, vd, hv, ha, hb⟩ := HBb.out.below hW; injection hv with hv; have e1 := congrArg (fun a => a[1]?) hv; have e2 := congrArg (fun a => a[2]?) hv; simp only [List.getElem?_toArray, List.getElem?_cons_succ, List.getElem?_cons_zero, Option.some.injEq] at e1 e2; subst e1 e2; exact ⟨_, _, rfl, hb, ha⟩) hn1 hd1 hd2 hn2 h1 (by omega) (ht.below hW)))
 clear hn1 hd1 hn2 hd2 h1 ht
 obtain ⟨t, htt⟩ : ∃ t, t = fmul (s1, n1, d1) (s2, d2, n2) := ⟨_, rfl⟩
 rw [← htt] at HM ⊢
 clear htt
 obtain ⟨cc, hcc⟩ : ∃ cc : Int, cc = if n2 = 0 then 10 else 0 := ⟨_, rfl⟩
 rw [← hcc]
 have HCC := hid hcc
 clear hcc
 go_enter Tryz.func150, Tryz.ntmps150
 go_upto_region 1 with fail
 have hVa : Var3 (w.alloc (.cells #[.bool s1, .slice p1 k1 c1, .slice p2 k2 c2] 55)) w.heap.size (.bool s1) (.slice p1 k1 c1) (.slice p2 k2 c2) := Var3.alloc w 55 trivial trivial trivial
 have hVb := Var3.alloc2 w (.cells #[.bool s1, .slice p1 k1 c1, .slice p2 k2 c2] 55) (x := .bool s2) (y := .slice p3 k3 c3) (z := .slice p4 k4 c4) 55 trivial trivial trivial
 have hVr := Var3.alloc3 w (.cells #[.bool s1, .slice p1 k1 c1, .slice p2 k2 c2] 55) (.cells #[.bool s2, .slice p3 k3 c3, .slice p4 k4 c4] 55) (x := .bool false) (y := .slice none 0 0) (z := .slice none 0 0) 55 trivial trivial trivial
 have hB0 := below_alloc3 w (.cells #[.bool s1, .slice p1 k1 c1, .slice p2 k2 c2] 55) (.cells #[.bool s2, .slice p3 k3 c3, .slice p4 k4 c4] 55) (.cells #[.bool false, .slice none 0 0, .slice none 0 0] 55)
 have hVa' := (hVa.below ((Below.refl _ _).alloc (Nat.le_refl _) (.cells #[.bool s2, .slice p3 k3 c3, .slice p4 k4 c4] 55))).below ((Below.refl _ _).alloc (Nat.le_refl _) (.cells #[.bool false, .slice none 0 0, .slice none 0 0] 55))
 have hVb' := hVb.below ((Below.refl _ _).alloc (Nat.le_refl _) (.cells #[.bool false, .slice none 0 0, .slice none 0 0] 55))
 clear hVa hVb
 generalize hW0 : ((w.alloc (.cells #[.bool s1, .slice p1 k1 c1, .slice p2 k2 c2] 55)).alloc (.cells #[.bool s2, .slice p3 k3 c3, .slice p4 k4 c4] 55)).alloc (.cells #[.bool false, .slice none 0 0, .slice none 0 0] 55) = W0 at *
 clear hW0
 have HV := hid (And.intro hVa' (And.intro hVb' (And.intro hVr hB0)))
 clear hVa' hVb' hVr hB0
 obtain ⟨a0, a1, a2, _⟩ := HV.out.2.1.cells
 go_wp2_with fail
 refine (HSg.out _ HV.out.2.2.2).mono ?_
 rintro e w1 ⟨rfl, hB1⟩
 clear a0 a1 a2 HSg
 obtain ⟨a0, a1, a2, _⟩ := (HV.out.1.below hB1).cells
 obtain ⟨b0, b1, b2, _⟩ := (HV.out.2.1.below hB1).cells
 obtain ⟨r0, r1, r2, r3, r4, r5⟩ := (HV.out.2.2.1.below hB1).cells
 have HR := hid (And.intro (HV.out.2.2.1.below hB1) (HV.out.2.2.2.trans (hB1.mono HV.out.2.2.2.size)))
 clear HV hB1
 have hle : w.heap.size ≤ w.heap.size + 1 + 1 := by omega
 by_cases h0 : n2 = 0
 ·obtain rfl := h2 h0
  subst h0
  have hcc := HCC.out
  rw [if_pos rfl] at hcc
  subst hcc
  clear HCC
  rw [show sgn false 0 = 0 from rfl]
  clear HM
  go_wp2_with fail
  exact FracDiv_ret rfl rfl (HR.out.1.store trivial trivial trivial) ⟨below_set3 HR.out.2 hle, .inl ⟨by decide, rfl⟩⟩
 ·have hs : (sgn s2 n2 == 0) = false := by unfold sgn; cases s2 <;> simp [h0]
  obtain ⟨sg2, hsg2⟩ : ∃ sg2, sg2 = sgn s2 n2 := ⟨_, rfl⟩
  rw [← hsg2] at hs ⊢
  clear hsg2
  have hcc := HCC.out
  rw [if_neg h0] at hcc
  subst hcc
  clear HCC
  have HM1 := hid (HM.out w1 h0 HR.out.2)
  clear HM h2 h0
  go_wp2_with fail
  refine HM1.out.mono ?_
  rintro e wf ⟨sg, pa, ka, ca, pb, kb, cb, rfl, HF, hBf⟩
  have hRf := HR.out.1.below hBf
  obtain ⟨x0, x1, x2, y0, y1, y2⟩ := id hRf.cells
  have HR2 := hid (And.intro hRf (HR.out.2.trans (hBf.mono HR.out.2.size)))
  clear hRf hBf HM1
  go_wp2_with fail
  exact FracDiv_ret rfl rfl (HR2.out.1.store trivial trivial trivial) ⟨below_set3 HR2.out.2 hle, .inr ⟨rfl, _, _, _, _, _, _, _, rfl, hid (HF.out.store3 HR2.out.1 _ _ _)⟩⟩
def cmpI (a b : Int) : Int := if a < b then -1 else if b < a then 1 else 0
theorem cmpI_any (a b : Int) (w : World) :
  Calls Tryz.prog 160 #[.int .i64 a, .int .i64 b] w fun e w' => e = .returned (.int .i64 (cmpI a b)) ∧ w = w' := by
 rcases Int.lt_trichotomy a b with h | h | h
 ·rw [show cmpI a b = -1 from if_pos h]
  go_enter Tryz.func160, Tryz.ntmps160
  go_wp2
  go_ret
  exact ⟨rfl, rfl⟩
 ·subst h
  rw [show cmpI a a = 0 by unfold cmpI; rw [if_neg (Int.lt_irrefl _)]; rw [if_neg (Int.lt_irrefl _)]]
  go_enter Tryz.func160, Tryz.ntmps160
  go_wp2
  go_ret
  exact ⟨rfl, rfl⟩
 ·rw [show cmpI a b = 1 by unfold cmpI; rw [if_neg (by omega), if_pos h]]
  go_enter Tryz.func160, Tryz.ntmps160
  go_wp2
  go_ret
  exact ⟨rfl, rfl⟩
def sv (s : Bool) (n : Nat) : Int := if s then -(n : Int) else n
def fcmp (a b : Bool × Nat × Nat) : Int := cmpI (sv a.1 a.2.1 * b.2.2) (sv b.1 b.2.1 * a.2.2)
theorem fcmp_eq (s1 : Bool) (n1 d1 : Nat) (s2 : Bool) (n2 d2 : Nat) (h1 : 0 < d1) (h2 : 0 < d2) (k1 : n1 = 0 → s1 = false) (k2 : n2 = 0 → s2 = false) :
  fcmp (s1, n1, d1) (s2, n2, d2) = if sgn s1 n1 = sgn s2 n2 then cmp3 (n1 * d2) (n2 * d1) * (if s1 then -1 else 1) else cmpI (sgn s1 n1) (sgn s2 n2) := by
 have e1 : sv s1 n1 * (d2 : Int) = sv s1 (n1 * d2) := by unfold sv; cases s1 <;> simp [Int.neg_mul]
 have e2 : sv s2 n2 * (d1 : Int) = sv s2 (n2 * d1) := by unfold sv; cases s2 <;> simp [Int.neg_mul]
 unfold fcmp
 simp only
 rw [e1, e2]
 have z1 : n1 * d2 = 0 ↔ n1 = 0 := by rw [Nat.mul_eq_zero]; omega
 have z2 : n2 * d1 = 0 ↔ n2 = 0 := by rw [Nat.mul_eq_zero]; omega
 clear e1 e2
 generalize n1 * d2 = X at *
 generalize n2 * d1 = Y at *
 unfold cmpI cmp3 sv sgn
 by_cases a1 : n1 = 0
 ·have b1 := k1 a1
  have c1 := z1.2 a1
  subst b1 c1
  by_cases a2 : n2 = 0
  ·have b2 := k2 a2
   have c2 := z2.2 a2
   subst b2 c2
   simp [a1, a2]
  ·have c2 : Y ≠ 0 := fun h => a2 (z2.1 h)
   cases s2 <;> simp [a1, a2] <;> first | omega | (split <;> omega)
 ·have c1 : X ≠ 0 := fun h => a1 (z1.1 h)
  by_cases a2 : n2 = 0
  ·have b2 := k2 a2
   have c2 := z2.2 a2
   subst b2 c2
   cases s1 <;> simp [a1, a2] <;> first | omega | (split <;> omega)
  ·have c2 : Y ≠ 0 := fun h => a2 (z2.1 h)
   cases s1 <;> cases s2 <;> simp [a1, a2] <;> first | omega | (split <;> first | omega | (split <;> omega))
theorem FracCompare_any (va vb : Value) (s1 : Bool) (n1 d1 : Nat) (s2 : Bool) (n2 d2 : Nat) (w : World) (ha : FRep w va s1 n1 d1) (hb : FRep w vb s2 n2 d2)
  (hn1 : n1 < W32 ^ 4000000) (hd1 : d1 < W32 ^ 4000000) (hn2 : n2 < W32 ^ 4000000) (hd2 : d2 < W32 ^ 4000000) (h1 : 0 < d1) (h2 : 0 < d2) (k1' : n1 = 0 → s1 = false) (k2' : n2 = 0 → s2 = false) :
  Calls Tryz.prog 161 #[va, vb] w fun e w' => e = .returned (.int .i64 (fcmp (s1, n1, d1) (s2, n2, d2))) ∧ Below w.heap.size w w' := by
 rw [fcmp_eq s1 n1 d1 s2 n2 d2 h1 h2 k1' k2']
 clear h1 h2 k1' k2'
 have HA := hid ha
 have HBb := hid hb
 obtain ⟨vn1, vd1, rfl, hrn1, hrd1⟩ := ha
 obtain ⟨vn2, vd2, rfl, hrn2, hrd2⟩ := hb
 have HR := hid (And.intro (And.intro hrn1 hrd1) (And.intro hrn2 hrd2))
 obtain ⟨p1, k1, c1, rfl, _, _, _⟩ := hrn1
 obtain ⟨p2, k2, c2, rfl, _, _, _⟩ := hrd1
 obtain ⟨p3, k3, c3, rfl, _, _, _⟩ := hrn2
 obtain ⟨p4, k4, c4, rfl, _, _, _⟩ := hrd2
 have HB := hid (And.intro (And.intro (lt_big hn1 (by omega)) (lt_big hd1 (by omega))) (And.intro (lt_big hn2 (by omega)) (lt_big hd2 (by omega))))
 have HX := hid (And.intro (lt_big (lt_mul (c := 9000000) hn1 hd2 (by omega)) (by omega)) (lt_big (lt_mul (c := 9000000) hn2 hd1 (by omega)) (by omega)))
 clear hn1 hd1 hn2 hd2
 have HS1 := hid (fun (W : World) (hW : Below w.heap.size w W) => Sign_any (.agg #[.bool s1, .slice p1 k1 c1, .slice p2 k2 c2]) s1 n1 d1 W (HA.out.below hW))
 have HS2 := hid (fun (W : World) (hW : Below w.heap.size w W) => Sign_any (.agg #[.bool s2, .slice p3 k3 c3, .slice p4 k4 c4]) s2 n2 d2 W (HBb.out.below hW))
 have HSe := hid (fun (W : World) (hW : Below w.heap.size w W) => sense_any (.agg #[.bool s1, .slice p1 k1 c1, .slice p2 k2 c2]) s1 n1 d1 W (HA.out.below hW))
 have hMx := hid (fun (W : World) (hW : Below w.heap.size w W) => Mul_any _ _ n1 d2 W (HR.out.1.1.below hW) (HR.out.2.2.below hW) HB.out.1.1 HB.out.2.2)
 have hMy := hid (fun (W : World) (hW : Below w.heap.size w W) => Mul_any _ _ n2 d1 W (HR.out.2.1.below hW) (HR.out.1.2.below hW) HB.out.2.1 HB.out.1.2)
 have hC := hid (fun (W : World) (vx vy : Value) hx hy => Compare_any vx vy (n1 * d2) (n2 * d1) W hx hy HX.out.1 HX.out.2)
 clear HR HB HX HA HBb
 obtain ⟨X, hX⟩ : ∃ X, X = n1 * d2 := ⟨_, rfl⟩
 obtain ⟨Y, hY⟩ : ∃ Y, Y = n2 * d1 := ⟨_, rfl⟩
 obtain ⟨g1, hg1⟩ : ∃ g1, g1 = sgn s1 n1 := ⟨_, rfl⟩
 obtain ⟨g2, hg2⟩ : ∃ g2, g2 = sgn s2 n2 := ⟨_, rfl⟩
 obtain ⟨m, hm⟩ : ∃ m : Int, m = if s1 = true then -1 else 1 := ⟨_, rfl⟩
 obtain ⟨r, hr⟩ : ∃ r, r = cmp3 (n1 * d2) (n2 * d1) := ⟨_, rfl⟩
 have hwr : IntKind.i64.wrap (r * m) = r * m := by
  have h1 : r = -1 ∨ r = 0 ∨ r = 1 := by rw [hr]; unfold cmp3; split <;> (try split) <;> simp
  have h2 : m = -1 ∨ m = 1 := by rw [hm]; split <;> simp
  rcases h1 with rfl | rfl | rfl <;> rcases h2 with rfl | rfl <;> decide
 rw [← hr, ← hm, ← hg1, ← hg2]
 rw [← hr, ← hX, ← hY] at hC
 rw [← hg1] at HS1
 rw [← hg2] at HS2
 rw [← hm] at HSe
 rw [← hX] at hMx
 rw [← hY] at hMy
 clear hr hm hg1 hg2 hX hY
 obtain ⟨R, hR⟩ : ∃ R : Int, R = if g1 = g2 then r * m else cmpI g1 g2 := ⟨_, rfl⟩
 rw [← hR]
 have HR := hid hR
 clear hR
 go_enter Tryz.func161, Tryz.ntmps161
 go_upto_region 1 with fail
 have hVa := (Var3.alloc w (x := .bool s1) (y := .slice p1 k1 c1) (z := .slice p2 k2 c2) 55 trivial trivial trivial).below ((Below.refl _ _).alloc (Nat.le_refl _) (.cells #[.bool s2, .slice p3 k3 c3, .slice p4 k4 c4] 55))
 have hVb := Var3.alloc2 w (.cells #[.bool s1, .slice p1 k1 c1, .slice p2 k2 c2] 55) (x := .bool s2) (y := .slice p3 k3 c3) (z := .slice p4 k4 c4) 55 trivial trivial trivial
 have hB0 := below_alloc2 w (.cells #[.bool s1, .slice p1 k1 c1, .slice p2 k2 c2] 55) (.cells #[.bool s2, .slice p3 k3 c3, .slice p4 k4 c4] 55)
 generalize (w.alloc (.cells #[.bool s1, .slice p1 k1 c1, .slice p2 k2 c2] 55)).alloc (.cells #[.bool s2, .slice p3 k3 c3, .slice p4 k4 c4] 55) = W0 at *
 have HS : Hid (∀ w', Below W0.heap.size W0 w' → (w'.cell? ⟨w.heap.size, 0, none⟩ = some (.bool s1) ∧ w'.cell? ⟨w.heap.size, 1, none⟩ = some (.slice p1 k1 c1) ∧ w'.cell? ⟨w.heap.size, 2, none⟩ = some (.slice p2 k2 c2) ∧ w'.cell? ⟨w.heap.size + 1, 0, none⟩ = some (.bool s2) ∧ w'.cell? ⟨w.heap.size + 1, 1, none⟩ = some (.slice p3 k3 c3) ∧ w'.cell? ⟨w.heap.size + 1, 2, none⟩ = some (.slice p4 k4 c4) ∧ Hid (Below W0.heap.size W0 w'))) :=
  hid fun w' hb => ⟨(hVa.below hb).cells.1, (hVa.below hb).cells.2.1, (hVa.below hb).cells.2.2.1, (hVb.below hb).cells.1, (hVb.below hb).cells.2.1, (hVb.below hb).cells.2.2.1, hid hb⟩
 have HB0 := hid hB0
 clear hVa hVb hB0
 go_region_held3 (fun w' => w'.cell? ⟨w.heap.size, 0, none⟩ = some (.bool s1) ∧ w'.cell? ⟨w.heap.size, 1, none⟩ = some (.slice p1 k1 c1) ∧ w'.cell? ⟨w.heap.size, 2, none⟩ = some (.slice p2 k2 c2) ∧ w'.cell? ⟨w.heap.size + 1, 0, none⟩ = some (.bool s2) ∧ w'.cell? ⟨w.heap.size + 1, 1, none⟩ = some (.slice p3 k3 c3) ∧ w'.cell? ⟨w.heap.size + 1, 2, none⟩ = some (.slice p4 k4 c4) ∧ Hid (Below W0.heap.size W0 w'))
  (first | exact HS.out _ (Below.refl _ _).drew | (exact HS.out _ (by assumption)))
  (first
   | (go_at_call_of 169 k1; refine (HS1.out _ (HB0.out.trans ((held6 (N := W0.heap.size) (W0 := W0) (by assumption)).mono HB0.out.size))).mono ?_; rintro e wa ⟨rfl, hBa⟩; have hKa := held_any (held6 (N := W0.heap.size) (W0 := W0) (by assumption)) hBa)
   | (go_at_call_of 169 k3; refine (HS2.out _ (HB0.out.trans ((held6 (N := W0.heap.size) (W0 := W0) (by assumption)).mono HB0.out.size))).mono ?_; rintro e wb ⟨rfl, hBb⟩; have hKb := held_any (held6 (N := W0.heap.size) (W0 := W0) (by assumption)) hBb))
 rename_i hHeld
 clear hHeld hKa hBa hBb
 by_cases hg : g1 = g2
 ·have hgf : (g1 == g2) = true := by simp [hg]
  have hR := HR.out
  rw [if_pos hg] at hR
  subst hR
  clear hg HR
  go_wp2_with fail
  go_region_held3 (fun w' => w'.cell? ⟨w.heap.size, 0, none⟩ = some (.bool s1) ∧ w'.cell? ⟨w.heap.size, 1, none⟩ = some (.slice p1 k1 c1) ∧ w'.cell? ⟨w.heap.size, 2, none⟩ = some (.slice p2 k2 c2) ∧ w'.cell? ⟨w.heap.size + 1, 0, none⟩ = some (.bool s2) ∧ w'.cell? ⟨w.heap.size + 1, 1, none⟩ = some (.slice p3 k3 c3) ∧ w'.cell? ⟨w.heap.size + 1, 2, none⟩ = some (.slice p4 k4 c4) ∧ Hid (Below W0.heap.size W0 w'))
   (first | exact HS.out _ hKb.drew | (exact HS.out _ (by assumption)))
   (first
    | (go_at_call_of 204 k1; refine (hMx.out _ (HB0.out.trans ((held6 (N := W0.heap.size) (W0 := W0) (by assumption)).mono HB0.out.size))).mono ?_; rintro e wx ⟨vx, rfl, hRx, hBx⟩; have hKx := held_any (held6 (N := W0.heap.size) (W0 := W0) (by assumption)) hBx)
    | (go_at_call_of 204 k3; refine (hMy.out _ (HB0.out.trans ((held6 (N := W0.heap.size) (W0 := W0) (by assumption)).mono HB0.out.size))).mono ?_; rintro e wy ⟨vy, rfl, hRy, hBy⟩; have hKy := held_any (held6 (N := W0.heap.size) (W0 := W0) (by assumption)) hBy)
    | (go_at_call 209; refine (hC.out _ vx vy (hRx.below hBy) hRy).mono ?_; rintro e wc ⟨rfl, q, rfl⟩; have hKc := below_drewN (held6 (N := W0.heap.size) (W0 := W0) (by assumption)) q)
    | (go_at_call 210; refine (HSe.out _ (HB0.out.trans ((held6 (N := W0.heap.size) (W0 := W0) (by assumption)).mono HB0.out.size))).mono ?_; rintro e ws ⟨rfl, hBs⟩; have hKs := held_any (held6 (N := W0.heap.size) (W0 := W0) (by assumption)) hBs))
  all_goals
   rename_i hHeld
   have HZ := hid (held6 (N := W0.heap.size) (W0 := W0) hHeld)
   clear hHeld
   go_wp2_with fail
   go_ret
   exact ⟨rfl, HB0.out.trans (HZ.out.mono HB0.out.size)⟩
 ·have hgf : (g1 == g2) = false := by simp [hg]
  have hCI := hid (fun W => cmpI_any g1 g2 W)
  have hR := HR.out
  rw [if_neg hg] at hR
  rw [← hR] at hCI
  clear hg HR hR
  go_wp2_with fail
  go_region_held3 (fun w' => w'.cell? ⟨w.heap.size, 0, none⟩ = some (.bool s1) ∧ w'.cell? ⟨w.heap.size, 1, none⟩ = some (.slice p1 k1 c1) ∧ w'.cell? ⟨w.heap.size, 2, none⟩ = some (.slice p2 k2 c2) ∧ w'.cell? ⟨w.heap.size + 1, 0, none⟩ = some (.bool s2) ∧ w'.cell? ⟨w.heap.size + 1, 1, none⟩ = some (.slice p3 k3 c3) ∧ w'.cell? ⟨w.heap.size + 1, 2, none⟩ = some (.slice p4 k4 c4) ∧ Hid (Below W0.heap.size W0 w'))
   (first | exact HS.out _ hKb.drew | (exact HS.out _ (by assumption)))
   (first
    | (go_at_call_of 169 k1; refine (HS1.out _ (HB0.out.trans ((held6 (N := W0.heap.size) (W0 := W0) (by assumption)).mono HB0.out.size))).mono ?_; rintro e wx ⟨rfl, hBx⟩; have hKx := held_any (held6 (N := W0.heap.size) (W0 := W0) (by assumption)) hBx)
    | (go_at_call_of 169 k3; refine (HS2.out _ (HB0.out.trans ((held6 (N := W0.heap.size) (W0 := W0) (by assumption)).mono HB0.out.size))).mono ?_; rintro e wy ⟨rfl, hBy⟩; have hKy := held_any (held6 (N := W0.heap.size) (W0 := W0) (by assumption)) hBy)
    | (go_at_call 160; refine (hCI.out _).mono ?_; rintro e wz ⟨rfl, rfl⟩))
  all_goals
   rename_i hHeld
   have HZ := hid (held6 (N := W0.heap.size) (W0 := W0) hHeld)
   clear hHeld
   go_wp2_with fail
   go_ret
   exact ⟨rfl, HB0.out.trans (HZ.out.mono HB0.out.size)⟩
end Go.Proofs.YtheojajaefjecaaGreatDoor
namespace Go.Proofs.YtheojajaefjecaaGreatDoor
open Go.RowKit Dg
def fsub (a b : Bool × Nat × Nat) : Bool × Nat × Nat := fadd a (fneg b)
def finv (a : Bool × Nat × Nat) : Bool × Nat × Nat := (a.1, a.2.2, a.2.1)
theorem fsub_bd {a b : Bool × Nat × Nat} (h1 : a.2.1 < W32 ^ 64) (h2 : a.2.2 < W32 ^ 64) (h3 : b.2.1 < W32 ^ 64) (h4 : b.2.2 < W32 ^ 64) : (fsub a b).2.1 < W32 ^ 1000000000 ∧ (fsub a b).2.2 < W32 ^ 1000000000 :=
 fadd_bd (b := fneg b) h1 h2 h3 h4
theorem frac_zero_sign {s : Bool} {n d : Nat} (_hd : 0 < d) (h : (frac s n d).2.1 = 0) : (frac s n d).1 = false := by
 unfold frac at h ⊢
 simp only at h ⊢
 have hg : Nat.gcd n d ∣ n := Nat.gcd_dvd_left n d
 have h0 : n = 0 := by
  have := Nat.div_mul_cancel hg
  rw [h, Nat.zero_mul] at this
  exact this.symm
 subst h0
 simp
theorem nSub_ret {W : World} {B : Nat} {x y z ev : Value} {tm : Array Value} {R : Ending → World → Prop} (h2 : tm[4]?.getD undef = .pointer (some ⟨B, 0, none⟩)) (h3 : tm[5]?.getD undef = ev) (hV : Var3 W B x y z)
  (hR : R (.returned (.tuple #[.agg #[x, y, z], ev])) W) : bodyPost Tryz.prog Tryz.f88 R .ret { tmps := tm, defers := [] } W := by
 obtain ⟨c0, c1, c2, _, _, _⟩ := hV.cells
 exact bodyPost_ret (v := .tuple #[.agg #[x, y, z], ev]) (by simp [results, Tryz.results88, go_sem, h2, h3, c0, c1, c2]) rfl hR
theorem enterSub (args : Array Value) (w : World) : (callFunc 154 args).run Tryz.prog w = .ok (.enter 154 args) w := call_enter Tryz.func154 (by kernel_rfl) rfl args w
theorem nSub_any (v : Value) (s : Bool) (n d : Nat) (y : Value) (s' : Bool) (n' d' : Nat) (w : World) (h : ARep w v s n d) (hy : ARep w y s' n' d') (ht : TabOk w) :
  Calls Tryz.prog 88 #[v, y] w fun e w' => Below w.heap.size w w' ∧ FRes w' e (ncode n d n' d' 0 (fsub (frac s n (den1 d)) (frac s' n' (den1 d')))) (outF (fsub (frac s n (den1 d)) (frac s' n' (den1 d')))) := by
 have hA := hid h
 have hY := hid hy
 obtain ⟨vn, vd, rfl, ⟨p1, k1, c1, rfl, _⟩, ⟨p2, k2, c2, rfl, _⟩⟩ := h
 obtain ⟨un, ud, rfl, ⟨p3, k3, c3, rfl, _⟩, ⟨p4, k4, c4, rfl, _⟩⟩ := hy
 have hcall : Hid (∀ W, ARep W (.agg #[.bool s, .slice p1 k1 c1, .slice p2 k2 c2]) s n d → ARep W (.agg #[.bool s', .slice p3 k3 c3, .slice p4 k4 c4]) s' n' d' → TabOk W →
   Calls Tryz.prog 153 #[.agg #[.bool s, .slice p1 k1 c1, .slice p2 k2 c2], .agg #[.bool s', .slice p3 k3 c3, .slice p4 k4 c4], .func (.func 154) #[] #[]] W fun e w' => Below W.heap.size W w' ∧ FRes w' e (ncode n d n' d' 0 (fsub (frac s n (den1 d)) (frac s' n' (den1 d')))) (outF (fsub (frac s n (den1 d)) (frac s' n' (den1 d'))))) :=
  hid fun W h1 h2 h3 => combine_any _ _ s n d _ s' n' d' _ W h1 h2 h3 enterSub
   (fun hL hL' W' v' u' hT hF hG => FracSub_any v' u' _ _ _ _ _ _ W' hF hG (lt_4m (large_bd hL).1 (by omega)) (lt_4m (large_bd hL).2 (by omega)) (lt_4m (large_bd hL').1 (by omega)) (lt_4m (large_bd hL').2 (by omega)) (gcd_den_pos n d) (gcd_den_pos n' d') hT (den_cop n d) (den_cop n' d'))
   (fun hL hL' => fsub_bd (large_bd hL).1 (large_bd hL).2 (large_bd hL').1 (large_bd hL').2)
 obtain ⟨U, hU⟩ : ∃ U, U = ncode n d n' d' 0 (fsub (frac s n (den1 d)) (frac s' n' (den1 d'))) := ⟨_, rfl⟩
 obtain ⟨T, hT⟩ : ∃ T, T = outF (fsub (frac s n (den1 d)) (frac s' n' (den1 d'))) := ⟨_, rfl⟩
 rw [← hU, ← hT] at hcall ⊢
 clear hU hT
 have HT := hid ht
 clear ht
 go_enter Tryz.func88, Tryz.ntmps88
 go_upto_region 1 with fail
 have hK := below_alloc3 w (.cells #[.bool s, .slice p1 k1 c1, .slice p2 k2 c2] 24) (.cells #[.bool s', .slice p3 k3 c3, .slice p4 k4 c4] 24) (.cells #[.bool false, .slice none 0 0, .slice none 0 0] 24)
 have hVa := ((Var3.alloc w (x := .bool s) (y := .slice p1 k1 c1) (z := .slice p2 k2 c2) 24 trivial trivial trivial).below ((Below.refl _ _).alloc (Nat.le_refl _) (.cells #[.bool s', .slice p3 k3 c3, .slice p4 k4 c4] 24))).below ((Below.refl _ _).alloc (Nat.le_refl _) (.cells #[.bool false, .slice none 0 0, .slice none 0 0] 24))
 have hVb := (Var3.alloc2 w (.cells #[.bool s, .slice p1 k1 c1, .slice p2 k2 c2] 24) (x := .bool s') (y := .slice p3 k3 c3) (z := .slice p4 k4 c4) 24 trivial trivial trivial).below ((Below.refl _ _).alloc (Nat.le_refl _) (.cells #[.bool false, .slice none 0 0, .slice none 0 0] 24))
 have hVr := Var3.alloc3 w (.cells #[.bool s, .slice p1 k1 c1, .slice p2 k2 c2] 24) (.cells #[.bool s', .slice p3 k3 c3, .slice p4 k4 c4] 24) (x := .bool false) (y := .slice none 0 0) (z := .slice none 0 0) 24 trivial trivial trivial
 generalize ((w.alloc (.cells #[.bool s, .slice p1 k1 c1, .slice p2 k2 c2] 24)).alloc (.cells #[.bool s', .slice p3 k3 c3, .slice p4 k4 c4] 24)).alloc (.cells #[.bool false, .slice none 0 0, .slice none 0 0] 24) = W0 at *
 have HV : Hid (Var3 W0 (w.heap.size + 1 + 1) (.bool false) (.slice none 0 0) (.slice none 0 0) ∧ Below w.heap.size w W0) := hid ⟨hVr, hK⟩
 obtain ⟨x0, x1, x2, _⟩ := id hVa.cells
 obtain ⟨y0, y1, y2, _⟩ := id hVb.cells
 have hcl := hid (hcall.out W0 (hA.out.below hK) (hY.out.below hK) (HT.out.below hK))
 clear hVa hVb hVr hK hcall
 go_wp2_with fail
 refine hcl.out.mono ?_
 rintro e w3 ⟨hB3, hR3⟩
 have hV3 := HV.out.1.below hB3
 obtain ⟨z0, z1, z2, r0, r1, r2⟩ := id hV3.cells
 have HV3 := hid (And.intro hV3 (HV.out.2.trans (hB3.mono HV.out.2.size)))
 clear x0 x1 x2 y0 y1 y2 hcl HV hV3 hB3
 rcases hR3 with ⟨hc, rfl⟩ | ⟨hc, sg', pa', ka', ca', pb', kb', cb', rfl, hF3⟩
 ·unfold zeroF
  go_wp2_with fail
  exact nSub_ret rfl rfl (HV3.out.1.store trivial trivial trivial) ⟨below_set3 HV3.out.2 (by show w.heap.size ≤ w.heap.size + 1 + 1; omega), .inl ⟨hc, rfl⟩⟩
 ·subst hc
  go_wp2_with fail
  exact nSub_ret rfl rfl (HV3.out.1.store trivial trivial trivial) ⟨below_set3 HV3.out.2 (by show w.heap.size ≤ w.heap.size + 1 + 1; omega), .inr ⟨rfl, _, _, _, _, _, _, _, rfl, hid (hF3.out.store3 HV3.out.1 _ _ _)⟩⟩
end Go.Proofs.YtheojajaefjecaaGreatDoor
