/- Numbers of the program: unary, binary, change, combine, FromInt. -/
import Derived.Test.YtdinpeglclkjhaaDoorFracF
namespace Go.Proofs.YtdinpeglclkjhaaDoor
open Go.RowKit Dg

/-- What an operation gives back: the error c, or the fraction t. -/
def FRes (w : World) (e : Ending) (c : Int) (t : Bool × Nat × Nat) : Prop :=
  (c ≠ 0 ∧ e = .returned (.tuple #[zeroF, .int .i64 c])) ∨
  (c = 0 ∧ ∃ sg pa ka ca pb kb cb, e = .returned (.tuple #[.agg #[.bool sg, .slice pa ka ca, .slice pb kb cb], .int .i64 0]) ∧ Hid (FNorm w (.agg #[.bool sg, .slice pa ka ca, .slice pb kb cb]) t))

theorem unary_ret {W : World} {B : Nat} {x y z ev : Value} {tm : Array Value} {R : Ending → World → Prop} (h2 : tm[4]?.getD undef = .pointer (some ⟨B, 0, none⟩)) (h3 : tm[5]?.getD undef = ev) (hV : Var3 W B x y z)
    (hR : R (.returned (.tuple #[.agg #[x, y, z], ev])) W) : bodyPost Tryd.prog Tryd.f94 R .ret { tmps := tm, defers := [] } W := by
  obtain ⟨c0, c1, c2, _, _, _⟩ := hV.cells
  exact bodyPost_ret (v := .tuple #[.agg #[x, y, z], ev]) (by simp [results, Tryd.results94, go_sem, h2, h3, c0, c1, c2]) rfl hR

/-- Of, its result laid open. -/
theorem FracOf_open (v : Value) (s : Bool) (n d : Nat) (w : World) (h : ARep w v s n d) (ht : TabOk w) :
    Calls Tryd.prog 68 #[v] w fun e w' => Below w.heap.size w w' ∧ FRes w' e (if large n d then 1 else 0) (frac s n (den1 d)) := by
  refine (FracOf_any v s n d w h ht).mono ?_
  rintro e w' ⟨hB, ⟨hL, he⟩ | ⟨hL, v', he, vn, vd, hv, h1, h2⟩⟩
  · exact ⟨hB, .inl ⟨by rw [hL]; decide, by rw [hL]; exact he⟩⟩
  · obtain ⟨pa, ka, ca, rfl, a1⟩ := id h1
    obtain ⟨pb, kb, cb, rfl, a2⟩ := id h2
    exact ⟨hB, .inr ⟨by rw [hL]; rfl, _, pa, ka, ca, pb, kb, cb, by rw [he, hv]; rfl, hid ⟨_, _, rfl, h1, h2⟩⟩⟩
theorem FracRat_open (v : Value) (t : Bool × Nat × Nat) (w : World) (h : FNorm w v t) (hn : t.2.1 < W32 ^ 1000000000) (hd : t.2.2 < W32 ^ 1000000000) :
    Calls Tryd.prog 62 #[v] w fun e w' => Below w.heap.size w w' ∧ FRes w' e (if big t.2.1 t.2.2 then 1 else 0) (t.1, t.2.1, den0 t.2.2) := by
  refine (FracRat_any v t.1 t.2.1 t.2.2 w h hn hd).mono ?_
  rintro e w' ⟨hB, ⟨hL, he⟩ | ⟨hL, v', he, vn, vd, hv, h1, h2⟩⟩
  · exact ⟨hB, .inl ⟨by rw [hL]; decide, by rw [hL]; exact he⟩⟩
  · obtain ⟨pa, ka, ca, rfl, a1⟩ := id h1
    obtain ⟨pb, kb, cb, rfl, a2⟩ := id h2
    exact ⟨hB, .inr ⟨by rw [hL]; rfl, _, pa, ka, ca, pb, kb, cb, by rw [he, hv], hid ⟨_, _, rfl, h1, h2⟩⟩⟩

theorem call_enter {P : Program} {f : FuncId} {fn : Func} {c : Code} (hf : P.funcs[f]? = some fn) (hname : (fn.name == "runtime.NumGoroutine") = false) (hb : fn.body = some c) (args : Array Value) (w : World) :
    (callFunc f args).run P w = .ok (.enter f args) w := by
  have h1 : fn.name ≠ "runtime.NumGoroutine" := by simpa using hname
  simp [callFunc, hf, h1, hb]
theorem enter95 (args : Array Value) (w : World) : (callFunc 95 args).run Tryd.prog w = .ok (.enter 95 args) w := call_enter Tryd.func95 (by kernel_rfl) rfl args w
theorem enter115 (args : Array Value) (w : World) : (callFunc 115 args).run Tryd.prog w = .ok (.enter 115 args) w := call_enter Tryd.func115 (by kernel_rfl) rfl args w

/-- The error of an operation on one number: sizes come first and last. -/
def ucode (n d : Nat) (c : Int) (t : Bool × Nat × Nat) : Int := if large n d then 1 else if c ≠ 0 then c else if big t.2.1 t.2.2 then 1 else 0

set_option maxHeartbeats 4000000 in
set_option maxRecDepth 100000 in
theorem unary_any (fid : FuncId) (cap : Array Value) (v : Value) (s : Bool) (n d : Nat) (c : Int) (t : Bool × Nat × Nat) (w : World) (h : ARep w v s n d) (ht : TabOk w)
    (hfn : ∀ args W, (callFunc fid args).run Tryd.prog W = .ok (.enter fid args) W)
    (hop : ∀ W v', Below w.heap.size w W → large n d = false → FNorm W v' (frac s n (den1 d)) → Calls Tryd.prog fid (#[v'] ++ cap) W fun e w' => Below W.heap.size W w' ∧ FRes w' e c t)
    (hbt : large n d = false → c = 0 → t.2.1 < W32 ^ 1000000000 ∧ t.2.2 < W32 ^ 1000000000) :
    Calls Tryd.prog 94 #[v, .func (.func fid) #[] cap] w fun e w' => Below w.heap.size w w' ∧ FRes w' e (ucode n d c t) (t.1, t.2.1, den0 t.2.2) := by
  have hA := h
  obtain ⟨vn, vd, rfl, ⟨p1, k1, c1, rfl, _⟩, ⟨p2, k2, c2, rfl, _⟩⟩ := h
  have HA := hid (And.intro hA (And.intro ht hbt))
  have HOP := hid hop
  clear hA ht hbt hop
  go_enter Tryd.func94, Tryd.ntmps94
  go_wp2_with fail
  have hVr := Var3.alloc2 w (.cells #[.bool s, .slice p1 k1 c1, .slice p2 k2 c2] 24) (x := .bool false) (y := .slice none 0 0) (z := .slice none 0 0) 24 trivial trivial trivial
  have hB0 := below_alloc2 w (.cells #[.bool s, .slice p1 k1 c1, .slice p2 k2 c2] 24) (.cells #[.bool false, .slice none 0 0, .slice none 0 0] 24)
  generalize hW0 : (w.alloc (.cells #[.bool s, .slice p1 k1 c1, .slice p2 k2 c2] 24)).alloc (.cells #[.bool false, .slice none 0 0, .slice none 0 0] 24) = W0 at *
  clear hW0
  refine (FracOf_open _ s n d W0 (HA.out.1.below hB0) (HA.out.2.1.below hB0)).mono ?_
  rintro e w1 ⟨hB1, hR1⟩
  have hVr1 := hVr.below hB1
  have hB01 := hB0.trans (hB1.mono hB0.size)
  obtain ⟨x0, x1, x2, y0, y1, y2⟩ := id hVr1.cells
  clear x0 x1 x2 y0 y1 y2
  by_cases hL : large n d = true
  · rw [if_pos hL] at hR1
    have HU : Hid (ucode n d c t = 1) := hid (if_pos hL)
    rcases hR1 with ⟨_, rfl⟩ | ⟨h0, _⟩
    · unfold zeroF
      have hV2 := hVr1.below ((Below.refl _ _).alloc (Nat.le_refl _) (.cells #[.bool false, .slice none 0 0, .slice none 0 0] 54))
      have hB2 := hB01.alloc hB01.size (.cells #[.bool false, .slice none 0 0, .slice none 0 0] 54)
      clear hL hVr1 hB01 hVr hB0 hB1
      go_upto_region 2 with fail
      generalize w1.alloc (.cells #[.bool false, .slice none 0 0, .slice none 0 0] 54) = W2 at *
      obtain ⟨x0, x1, x2, y0, y1, y2⟩ := id hV2.cells
      have HV := hid (And.intro hV2 hB2)
      clear hV2 hB2
      go_wp2_with fail
      exact unary_ret rfl rfl (HV.out.1.store trivial trivial trivial) ⟨below_set3 HV.out.2 (Nat.le_succ _), .inl ⟨by rw [HU.out]; decide, by rw [HU.out]; rfl⟩⟩
    · exact absurd h0 (by decide)
  · rw [if_neg hL] at hR1
    have HU : Hid (ucode n d c t = if c ≠ 0 then c else if big t.2.1 t.2.2 then 1 else 0) := hid (if_neg hL)
    rcases hR1 with ⟨h0, _⟩ | ⟨_, sg, pa, ka, ca, pb, kb, cb, rfl, hF⟩
    · exact absurd rfl h0
    · have hK := (Below.refl _ w1).alloc (Nat.le_refl _) (.cells #[.bool sg, .slice pa ka ca, .slice pb kb cb] 54)
      have hV2 := hVr1.below hK
      have hB2 := hB01.alloc hB01.size (.cells #[.bool sg, .slice pa ka ca, .slice pb kb cb] 54)
      have hF2 := hid (hF.out.below hK)
      have hVa : Var3 (w1.alloc (.cells #[.bool sg, .slice pa ka ca, .slice pb kb cb] 54)) w1.heap.size (.bool sg) (.slice pa ka ca) (.slice pb kb cb) := Var3.alloc w1 54 trivial trivial trivial
      have HLL : Hid (large n d = false) := hid (by simpa using hL)
      clear hL hVr1 hB01 hVr hB0 hB1 hK hF
      go_upto_region 2 with fail
      generalize w1.alloc (.cells #[.bool sg, .slice pa ka ca, .slice pb kb cb] 54) = W2 at *
      generalize w1.heap.size = X at *
      have HV := hid (And.intro hV2 (And.intro hB2 hVa))
      have hop := hid (HOP.out W2 _ hB2 HLL.out hF2.out)
      obtain ⟨x0, x1, x2, _⟩ := id hVa.cells
      clear hV2 hB2 hVa
      go_wp2_with fail
      refine hop.out.mono ?_
      rintro e w3 ⟨hB3, hR3⟩
      have hV3 := HV.out.1.below hB3
      have hB03 := HV.out.2.1.trans (hB3.mono HV.out.2.1.size)
      clear x0 x1 x2 hop HV hF2
      rcases hR3 with ⟨hc, rfl⟩ | ⟨hc, sg', pa', ka', ca', pb', kb', cb', rfl, hF3⟩
      · unfold zeroF
        have hV4 := hV3.below ((Below.refl _ _).alloc (Nat.le_refl _) (.cells #[.bool false, .slice none 0 0, .slice none 0 0] 54))
        have hB4 := hB03.alloc hB03.size (.cells #[.bool false, .slice none 0 0, .slice none 0 0] 54)
        clear hV3 hB03 hB3
        have HU2 : Hid (ucode n d c t = c ∧ c ≠ 0) := hid ⟨by rw [HU.out, if_pos hc], hc⟩
        go_upto_region 5 with fail
        generalize w3.alloc (.cells #[.bool false, .slice none 0 0, .slice none 0 0] 54) = W4 at *
        obtain ⟨x0, x1, x2, y0, y1, y2⟩ := id hV4.cells
        have HV := hid (And.intro hV4 hB4)
        clear hV4 hB4
        go_wp2_with fail
        exact unary_ret rfl rfl (HV.out.1.store trivial trivial trivial) ⟨below_set3 HV.out.2 (Nat.le_succ _), .inl ⟨by rw [HU2.out.1]; exact HU2.out.2, by rw [HU2.out.1]; rfl⟩⟩
      · subst hc
        have HU2 : Hid (ucode n d 0 t = if big t.2.1 t.2.2 then 1 else 0) := hid (by rw [HU.out, if_neg (by decide)])
        have hK := (Below.refl _ w3).alloc (Nat.le_refl _) (.cells #[.bool sg', .slice pa' ka' ca', .slice pb' kb' cb'] 54)
        have hV4 := hV3.below hK
        have hB4 := hB03.alloc hB03.size (.cells #[.bool sg', .slice pa' ka' ca', .slice pb' kb' cb'] 54)
        have hF4 := hid (hF3.out.below hK)
        have hVa : Var3 (w3.alloc (.cells #[.bool sg', .slice pa' ka' ca', .slice pb' kb' cb'] 54)) w3.heap.size (.bool sg') (.slice pa' ka' ca') (.slice pb' kb' cb') := Var3.alloc w3 54 trivial trivial trivial
        clear hV3 hB03 hB3 hK hF3
        go_upto_region 5 with fail
        generalize w3.alloc (.cells #[.bool sg', .slice pa' ka' ca', .slice pb' kb' cb'] 54) = W4 at *
        generalize w3.heap.size = X' at *
        obtain ⟨x0, x1, x2, _⟩ := id hVa.cells
        have HV := hid (And.intro hV4 hB4)
        have hrat := hid (FracRat_open _ t W4 hF4.out (HA.out.2.2 HLL.out (by trivial)).1 (HA.out.2.2 HLL.out (by trivial)).2)
        clear hV4 hB4 hVa hF4
        go_wp2_with fail
        refine hrat.out.mono ?_
        rintro e w5 ⟨hB5, hR5⟩
        have hV5 := HV.out.1.below hB5
        obtain ⟨z0, z1, z2, r0, r1, r2⟩ := id hV5.cells
        have HV5 := hid (And.intro hV5 (HV.out.2.trans (hB5.mono HV.out.2.size)))
        clear hV5 hB5 hrat HV x0 x1 x2
        rcases hR5 with ⟨hc, rfl⟩ | ⟨hc, s6, p6, k6, c6, p7, k7, c7, rfl, hF6⟩
        · obtain ⟨bb, hbb⟩ : ∃ bb, bb = (if big t.2.1 t.2.2 then (1 : Int) else 0) := ⟨_, rfl⟩
          rw [← hbb] at hc ⊢
          rw [← hbb] at HU2
          clear hbb
          unfold zeroF
          go_wp2_with fail
          exact unary_ret rfl rfl (HV5.out.1.store trivial trivial trivial) ⟨below_set3 HV5.out.2 (Nat.le_succ _), .inl ⟨by rw [HU2.out]; exact hc, by rw [HU2.out]; rfl⟩⟩
        · have HU6 := hid (HU2.out.trans hc)
          clear hc
          go_wp2_with fail
          exact unary_ret rfl rfl (HV5.out.1.store trivial trivial trivial) ⟨below_set3 HV5.out.2 (Nat.le_succ _), .inr ⟨HU6.out, _, _, _, _, _, _, _, rfl, hid (hF6.out.store3 HV5.out.1 _ _ _)⟩⟩
end Go.Proofs.YtdinpeglclkjhaaDoor
