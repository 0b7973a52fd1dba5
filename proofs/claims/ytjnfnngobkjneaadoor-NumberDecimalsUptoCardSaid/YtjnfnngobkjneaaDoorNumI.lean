/- Numbers of the program: Canon, Neg, Abs; results with their errors, as fractions. -/
import Derived.Test.YtjnfnngobkjneaaDoorNumY
namespace Go.Proofs.YtjnfnngobkjneaaDoor
open Go.RowKit Dg
theorem enterNeg (args : Array Value) (w : World) : (callFunc 50 args).run Tryd.prog w = .ok (.enter 50 args) w := call_enter Tryd.func50 (by kernel_rfl) rfl args w
/-- The absolute value. -/
def fabs (a : Bool × Nat × Nat) : Bool × Nat × Nat := (false, a.2.1, a.2.2)

theorem nNeg_ret {W : World} {B : Nat} {x y z ev : Value} {tm : Array Value} {R : Ending → World → Prop} (h2 : tm[2]?.getD undef = .pointer (some ⟨B, 0, none⟩)) (h3 : tm[3]?.getD undef = ev) (hV : Var3 W B x y z)
    (hR : R (.returned (.tuple #[.agg #[x, y, z], ev])) W) : bodyPost Tryd.prog Tryd.f17 R .ret { tmps := tm, defers := [] } W := by
  obtain ⟨c0, c1, c2, _, _, _⟩ := hV.cells
  exact bodyPost_ret (v := .tuple #[.agg #[x, y, z], ev]) (by simp [results, Tryd.results17, go_sem, h2, h3, c0, c1, c2]) rfl hR
set_option maxHeartbeats 2000000 in
set_option maxRecDepth 100000 in
theorem nNeg_any (v : Value) (s : Bool) (n d : Nat) (w : World) (h : ARep w v s n d) (ht : TabOk w) :
    Calls Tryd.prog 17 #[v] w fun e w' => Below w.heap.size w w' ∧ FRes w' e (ucode n d 0 (fneg (frac s n (den1 d)))) (outF (fneg (frac s n (den1 d)))) := by
  have hA := hid h
  obtain ⟨vn, vd, rfl, ⟨p1, k1, c1, rfl, _⟩, ⟨p2, k2, c2, rfl, _⟩⟩ := h
  have hcall : Hid (∀ W, ARep W (.agg #[.bool s, .slice p1 k1 c1, .slice p2 k2 c2]) s n d → TabOk W →
      Calls Tryd.prog 49 #[.agg #[.bool s, .slice p1 k1 c1, .slice p2 k2 c2], .func (.func 50) #[] #[]] W fun e w' => Below W.heap.size W w' ∧ FRes w' e (ucode n d 0 (fneg (frac s n (den1 d)))) (outF (fneg (frac s n (den1 d))))) :=
    hid fun W h1 h3 => change_any _ _ s n d _ W h1 h3 enterNeg (fun _ W v' _ hF => Neg_any v' _ _ _ W hF)
      (fun hL => ⟨lt_big (large_bd hL).1 (by omega), lt_big (large_bd hL).2 (by omega)⟩)
  obtain ⟨U, hU⟩ : ∃ U, U = ucode n d 0 (fneg (frac s n (den1 d))) := ⟨_, rfl⟩
  obtain ⟨T, hT⟩ : ∃ T, T = outF (fneg (frac s n (den1 d))) := ⟨_, rfl⟩
  rw [← hU, ← hT] at hcall ⊢
  clear hU hT
  have HT := hid ht
  clear ht
  go_enter Tryd.func17, Tryd.ntmps17
  go_upto_region 1 with fail
  have hK := below_alloc2 w (.cells #[.bool s, .slice p1 k1 c1, .slice p2 k2 c2] 24) (.cells #[.bool false, .slice none 0 0, .slice none 0 0] 24)
  have hVa := (Var3.alloc w (x := .bool s) (y := .slice p1 k1 c1) (z := .slice p2 k2 c2) 24 trivial trivial trivial).below ((Below.refl _ _).alloc (Nat.le_refl _) (.cells #[.bool false, .slice none 0 0, .slice none 0 0] 24))
  have hVr := Var3.alloc2 w (.cells #[.bool s, .slice p1 k1 c1, .slice p2 k2 c2] 24) (x := .bool false) (y := .slice none 0 0) (z := .slice none 0 0) 24 trivial trivial trivial
  generalize (w.alloc (.cells #[.bool s, .slice p1 k1 c1, .slice p2 k2 c2] 24)).alloc (.cells #[.bool false, .slice none 0 0, .slice none 0 0] 24) = W0 at *
  have HV : Hid (Var3 W0 (w.heap.size + 1) (.bool false) (.slice none 0 0) (.slice none 0 0) ∧ Below w.heap.size w W0) := hid ⟨hVr, hK⟩
  obtain ⟨x0, x1, x2, _⟩ := id hVa.cells
  have hcl := hid (hcall.out W0 (hA.out.below hK) (HT.out.below hK))
  clear hVa hVr hK hcall
  go_wp2_with fail
  refine hcl.out.mono ?_
  rintro e w3 ⟨hB3, hR3⟩
  have hV3 := HV.out.1.below hB3
  obtain ⟨z0, z1, z2, r0, r1, r2⟩ := id hV3.cells
  have HV3 := hid (And.intro hV3 (HV.out.2.trans (hB3.mono HV.out.2.size)))
  clear x0 x1 x2 hcl HV hV3 hB3
  rcases hR3 with ⟨hc, rfl⟩ | ⟨hc, sg', pa', ka', ca', pb', kb', cb', rfl, hF3⟩
  · unfold zeroF
    go_wp2_with fail
    exact nNeg_ret rfl rfl (HV3.out.1.store trivial trivial trivial) ⟨below_set3 HV3.out.2 (by omega), .inl ⟨hc, rfl⟩⟩
  · subst hc
    go_wp2_with fail
    exact nNeg_ret rfl rfl (HV3.out.1.store trivial trivial trivial) ⟨below_set3 HV3.out.2 (by omega), .inr ⟨rfl, _, _, _, _, _, _, _, rfl, hid (hF3.out.store3 HV3.out.1 _ _ _)⟩⟩

end Go.Proofs.YtjnfnngobkjneaaDoor
