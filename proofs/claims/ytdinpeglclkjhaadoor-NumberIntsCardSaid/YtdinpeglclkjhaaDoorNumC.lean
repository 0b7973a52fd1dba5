/- Numbers of the program: change, combine, binary. -/
import Derived.Test.YtdinpeglclkjhaaDoorNumB
namespace Go.Proofs.YtdinpeglclkjhaaDoor
open Go.RowKit Dg

theorem change_ret {W : World} {B : Nat} {x y z ev : Value} {tm : Array Value} {R : Ending → World → Prop} (h2 : tm[4]?.getD undef = .pointer (some ⟨B, 0, none⟩)) (h3 : tm[5]?.getD undef = ev) (hV : Var3 W B x y z)
    (hR : R (.returned (.tuple #[.agg #[x, y, z], ev])) W) : bodyPost Tryd.prog Tryd.f53 R .ret { tmps := tm, defers := [] } W := by
  obtain ⟨c0, c1, c2, _, _, _⟩ := hV.cells
  exact bodyPost_ret (v := .tuple #[.agg #[x, y, z], ev]) (by simp [results, Tryd.results53, go_sem, h2, h3, c0, c1, c2]) rfl hR
theorem combine_ret {W : World} {B : Nat} {x y z ev : Value} {tm : Array Value} {R : Ending → World → Prop} (h2 : tm[6]?.getD undef = .pointer (some ⟨B, 0, none⟩)) (h3 : tm[7]?.getD undef = ev) (hV : Var3 W B x y z)
    (hR : R (.returned (.tuple #[.agg #[x, y, z], ev])) W) : bodyPost Tryd.prog Tryd.f66 R .ret { tmps := tm, defers := [] } W := by
  obtain ⟨c0, c1, c2, _, _, _⟩ := hV.cells
  exact bodyPost_ret (v := .tuple #[.agg #[x, y, z], ev]) (by simp [results, Tryd.results66, go_sem, h2, h3, c0, c1, c2]) rfl hR
theorem binary_ret {W : World} {B : Nat} {x y z ev : Value} {tm : Array Value} {R : Ending → World → Prop} (h2 : tm[6]?.getD undef = .pointer (some ⟨B, 0, none⟩)) (h3 : tm[7]?.getD undef = ev) (hV : Var3 W B x y z)
    (hR : R (.returned (.tuple #[.agg #[x, y, z], ev])) W) : bodyPost Tryd.prog Tryd.f79 R .ret { tmps := tm, defers := [] } W := by
  obtain ⟨c0, c1, c2, _, _, _⟩ := hV.cells
  exact bodyPost_ret (v := .tuple #[.agg #[x, y, z], ev]) (by simp [results, Tryd.results79, go_sem, h2, h3, c0, c1, c2]) rfl hR

def outF (t : Bool × Nat × Nat) : Bool × Nat × Nat := (t.1, t.2.1, den0 t.2.2)

/-- The last steps of a wrapper: its result is stored and returned. -/
theorem FCell.new (w : World) (g : FuncId) (cap : Array Value) (t : Nat) : FCell (w.alloc (.cells #[.func (.func g) #[] cap] t)) w.heap.size g cap :=
  ⟨by simp only [World.cell?, heap_alloc_new]; rfl, by rw [World.size_alloc]; omega⟩

theorem Var3.alloc4 (w : World) (o o' o'' : Obj) {x y z : Value} (t : Nat) (hx : NotInt x) (hy : NotInt y) (hz : NotInt z) : Var3 ((((w.alloc o).alloc o').alloc o'').alloc (.cells #[x, y, z] t)) (w.heap.size + 1 + 1 + 1) x y z := by
  have h := Var3.alloc (((w.alloc o).alloc o').alloc o'') t hx hy hz
  rwa [World.size_alloc, World.size_alloc, World.size_alloc] at h
theorem below_alloc4 (w : World) (o o' o'' o3 : Obj) : Below w.heap.size w ((((w.alloc o).alloc o').alloc o'').alloc o3) := (below_alloc3 w o o' o'').alloc (by rw [World.size_alloc, World.size_alloc, World.size_alloc]; omega) _
theorem bcode_bt {n d n' d' : Nat} {c : Int} {p : Prop} (hb : bcode n' d' c = 0) (h : large n d = false → large n' d' = false → c = 0 → p) (hL : large n d = false) : p := by
  unfold bcode at hb
  by_cases h' : large n' d' = true
  · rw [if_pos h'] at hb; exact absurd hb (by decide)
  · rw [if_neg h'] at hb; exact h hL (by simpa using h') hb
theorem FCell.new2 (w : World) (o : Obj) (g : FuncId) (cap : Array Value) (t : Nat) : FCell ((w.alloc o).alloc (.cells #[.func (.func g) #[] cap] t)) (w.heap.size + 1) g cap := by
  have h := FCell.new (w.alloc o) g cap t
  rwa [World.size_alloc] at h
theorem FCell.new3 (w : World) (o o' : Obj) (g : FuncId) (cap : Array Value) (t : Nat) : FCell (((w.alloc o).alloc o').alloc (.cells #[.func (.func g) #[] cap] t)) (w.heap.size + 1 + 1) g cap := by
  have h := FCell.new ((w.alloc o).alloc o') g cap t
  rwa [World.size_alloc, World.size_alloc] at h

set_option maxHeartbeats 4000000 in
set_option maxRecDepth 100000 in
theorem change_any (g : FuncId) (v : Value) (s : Bool) (n d : Nat) (tr : Bool × Nat × Nat) (w : World) (h : ARep w v s n d) (ht : TabOk w)
    (hfn : ∀ args W, (callFunc g args).run Tryd.prog W = .ok (.enter g args) W)
    (hop : large n d = false → ∀ W v', TabOk W → FNorm W v' (frac s n (den1 d)) → Calls Tryd.prog g #[v'] W fun e w' => ∃ v'', e = .returned v'' ∧ FNorm w' v'' tr ∧ Below W.heap.size W w')
    (hbt : large n d = false → tr.2.1 < W32 ^ 1000000000 ∧ tr.2.2 < W32 ^ 1000000000) :
    Calls Tryd.prog 53 #[v, .func (.func g) #[] #[]] w fun e w' => Below w.heap.size w w' ∧ FRes w' e (ucode n d 0 tr) (outF tr) := by
  have hA := hid h
  obtain ⟨vn, vd, rfl, ⟨p1, k1, c1, rfl, _⟩, ⟨p2, k2, c2, rfl, _⟩⟩ := h
  have HH := hid (And.intro ht (And.intro hfn (And.intro hop hbt)))
  clear ht hfn hop hbt
  obtain ⟨U, hU⟩ : ∃ U, U = ucode n d 0 tr := ⟨_, rfl⟩
  rw [← hU]
  have HU := hid hU
  clear hU
  go_enter Tryd.func53, Tryd.ntmps53
  go_upto_region 1 with fail
  have hK := below_alloc3 w (.cells #[.bool s, .slice p1 k1 c1, .slice p2 k2 c2] 24) (.cells #[.func (.func g) #[] #[]] 55) (.cells #[.bool false, .slice none 0 0, .slice none 0 0] 24)
  have hVa := ((Var3.alloc w (x := .bool s) (y := .slice p1 k1 c1) (z := .slice p2 k2 c2) 24 trivial trivial trivial).below ((Below.refl _ _).alloc (Nat.le_refl _) (.cells #[.func (.func g) #[] #[]] 55))).below ((Below.refl _ _).alloc (Nat.le_refl _) (.cells #[.bool false, .slice none 0 0, .slice none 0 0] 24))
  have hfc := (FCell.new2 w (.cells #[.bool s, .slice p1 k1 c1, .slice p2 k2 c2] 24) g #[] 55).below ((Below.refl _ _).alloc (Nat.le_refl _) (.cells #[.bool false, .slice none 0 0, .slice none 0 0] 24))
  have hVr := Var3.alloc3 w (.cells #[.bool s, .slice p1 k1 c1, .slice p2 k2 c2] 24) (.cells #[.func (.func g) #[] #[]] 55) (x := .bool false) (y := .slice none 0 0) (z := .slice none 0 0) 24 trivial trivial trivial
  generalize ((w.alloc (.cells #[.bool s, .slice p1 k1 c1, .slice p2 k2 c2] 24)).alloc (.cells #[.func (.func g) #[] #[]] 55)).alloc (.cells #[.bool false, .slice none 0 0, .slice none 0 0] 24) = W0 at *
  have HV : Hid (Var3 W0 (w.heap.size + 1 + 1) (.bool false) (.slice none 0 0) (.slice none 0 0) ∧ Below w.heap.size w W0) := hid ⟨hVr, hK⟩
  obtain ⟨x0, x1, x2, _⟩ := id hVa.cells
  have hcall := hid (unary_any 95 #[.pointer (some ⟨w.heap.size + 1, 0, none⟩)] _ s n d 0 tr W0 (hA.out.below hK) (HH.out.1.below hK) enter95
    (fun W v' hW hL hF => change1_any g (w.heap.size + 1) v' _ tr W (hfc.below hW) hF ((HH.out.1.below hK).below hW) HH.out.2.1 (HH.out.2.2.1 hL)) (fun hL _ => HH.out.2.2.2 hL))
  clear hVa hVr hK hfc
  go_wp2_with fail
  refine hcall.out.mono ?_
  rintro e w3 ⟨hB3, hR3⟩
  have hV3 := HV.out.1.below hB3
  obtain ⟨z0, z1, z2, r0, r1, r2⟩ := id hV3.cells
  have HV3 := hid (And.intro hV3 (HV.out.2.trans (hB3.mono HV.out.2.size)))
  clear x0 x1 x2 hcall HV hV3 hB3
  rw [← HU.out] at hR3
  rcases hR3 with ⟨hc, rfl⟩ | ⟨hc, sg', pa', ka', ca', pb', kb', cb', rfl, hF3⟩
  · unfold zeroF
    go_wp2_with fail
    exact change_ret rfl rfl (HV3.out.1.store trivial trivial trivial) ⟨below_set3 HV3.out.2 (by show w.heap.size ≤ w.heap.size + 1 + 1; omega), .inl ⟨hc, rfl⟩⟩
  · subst hc
    go_wp2_with fail
    exact change_ret rfl rfl (HV3.out.1.store trivial trivial trivial) ⟨below_set3 HV3.out.2 (by show w.heap.size ≤ w.heap.size + 1 + 1; omega), .inr ⟨rfl, _, _, _, _, _, _, _, rfl, hid (hF3.out.store3 HV3.out.1 _ _ _)⟩⟩

/-- The error of an operation on two numbers. -/
def ncode (n d n' d' : Nat) (c : Int) (t : Bool × Nat × Nat) : Int := ucode n d (bcode n' d' c) t

set_option maxHeartbeats 4000000 in
set_option maxRecDepth 100000 in
theorem binary_any (fid : FuncId) (cap : Array Value) (v : Value) (s : Bool) (n d : Nat) (y : Value) (s' : Bool) (n' d' : Nat) (c : Int) (t : Bool × Nat × Nat) (w : World) (h : ARep w v s n d) (hy : ARep w y s' n' d') (ht : TabOk w)
    (hfn : ∀ args W, (callFunc fid args).run Tryd.prog W = .ok (.enter fid args) W)
    (hop : large n d = false → large n' d' = false → ∀ W v' u', Below w.heap.size w W → FNorm W v' (frac s n (den1 d)) → FNorm W u' (frac s' n' (den1 d')) → Calls Tryd.prog fid (#[v', u'] ++ cap) W fun e w' => Below W.heap.size W w' ∧ FRes w' e c t)
    (hbt : large n d = false → large n' d' = false → c = 0 → t.2.1 < W32 ^ 1000000000 ∧ t.2.2 < W32 ^ 1000000000) :
    Calls Tryd.prog 79 #[v, y, .func (.func fid) #[] cap] w fun e w' => Below w.heap.size w w' ∧ FRes w' e (ncode n d n' d' c t) (outF t) := by
  have hA := hid h
  have hY := hid hy
  obtain ⟨vn, vd, rfl, ⟨p1, k1, c1, rfl, _⟩, ⟨p2, k2, c2, rfl, _⟩⟩ := h
  obtain ⟨un, ud, rfl, ⟨p3, k3, c3, rfl, _⟩, ⟨p4, k4, c4, rfl, _⟩⟩ := hy
  have HH := hid (And.intro ht (And.intro hfn (And.intro hop hbt)))
  clear ht hfn hop hbt
  obtain ⟨U, hU⟩ : ∃ U, U = ncode n d n' d' c t := ⟨_, rfl⟩
  rw [← hU]
  have HU := hid hU
  clear hU
  go_enter Tryd.func79, Tryd.ntmps79
  go_upto_region 1 with fail
  have hK := below_alloc4 w (.cells #[.bool s, .slice p1 k1 c1, .slice p2 k2 c2] 24) (.cells #[.bool s', .slice p3 k3 c3, .slice p4 k4 c4] 24) (.cells #[.func (.func fid) #[] cap] 79) (.cells #[.bool false, .slice none 0 0, .slice none 0 0] 24)
  have hVa := (((Var3.alloc w (x := .bool s) (y := .slice p1 k1 c1) (z := .slice p2 k2 c2) 24 trivial trivial trivial).below ((Below.refl _ _).alloc (Nat.le_refl _) (.cells #[.bool s', .slice p3 k3 c3, .slice p4 k4 c4] 24))).below ((Below.refl _ _).alloc (Nat.le_refl _) (.cells #[.func (.func fid) #[] cap] 79))).below ((Below.refl _ _).alloc (Nat.le_refl _) (.cells #[.bool false, .slice none 0 0, .slice none 0 0] 24))
  have hVb := ((Var3.alloc2 w (.cells #[.bool s, .slice p1 k1 c1, .slice p2 k2 c2] 24) (x := .bool s') (y := .slice p3 k3 c3) (z := .slice p4 k4 c4) 24 trivial trivial trivial).below ((Below.refl _ _).alloc (Nat.le_refl _) (.cells #[.func (.func fid) #[] cap] 79))).below ((Below.refl _ _).alloc (Nat.le_refl _) (.cells #[.bool false, .slice none 0 0, .slice none 0 0] 24))
  have hfc := (FCell.new3 w (.cells #[.bool s, .slice p1 k1 c1, .slice p2 k2 c2] 24) (.cells #[.bool s', .slice p3 k3 c3, .slice p4 k4 c4] 24) fid cap 79).below ((Below.refl _ _).alloc (Nat.le_refl _) (.cells #[.bool false, .slice none 0 0, .slice none 0 0] 24))
  have hVr := Var3.alloc4 w (.cells #[.bool s, .slice p1 k1 c1, .slice p2 k2 c2] 24) (.cells #[.bool s', .slice p3 k3 c3, .slice p4 k4 c4] 24) (.cells #[.func (.func fid) #[] cap] 79) (x := .bool false) (y := .slice none 0 0) (z := .slice none 0 0) 24 trivial trivial trivial
  generalize (((w.alloc (.cells #[.bool s, .slice p1 k1 c1, .slice p2 k2 c2] 24)).alloc (.cells #[.bool s', .slice p3 k3 c3, .slice p4 k4 c4] 24)).alloc (.cells #[.func (.func fid) #[] cap] 79)).alloc (.cells #[.bool false, .slice none 0 0, .slice none 0 0] 24) = W0 at *
  have HV : Hid (Var3 W0 (w.heap.size + 1 + 1 + 1) (.bool false) (.slice none 0 0) (.slice none 0 0) ∧ Below w.heap.size w W0) := hid ⟨hVr, hK⟩
  obtain ⟨x0, x1, x2, _⟩ := id hVa.cells
  have hcall := hid (unary_any 115 #[.pointer (some ⟨w.heap.size + 1, 0, none⟩), .pointer (some ⟨w.heap.size + 1 + 1, 0, none⟩)] _ s n d (bcode n' d' c) t W0 (hA.out.below hK) (HH.out.1.below hK) enter115
    (fun W v' hW hL hF => binary1_any fid cap (w.heap.size + 1) (w.heap.size + 1 + 1) v' _ _ s' n' d' c t W ((hY.out.below hK).below hW) (fun _ _ _ he => by injection he with he; injection he with he; simp only [List.cons.injEq, and_true] at he; obtain ⟨rfl, rfl, rfl⟩ := he; exact hVb.below hW) (hfc.below hW) hF ((HH.out.1.below hK).below hW) HH.out.2.1
      (fun W' v'' u'' hW' hL' hF' hG' => HH.out.2.2.1 hL hL' W' v'' u'' (hK.trans ((hW.trans (hW'.mono hW.size)).mono hK.size)) hF' hG')) (fun hL hb => bcode_bt hb HH.out.2.2.2 hL))
  clear hVa hVb hVr hK hfc
  go_wp2_with fail
  refine hcall.out.mono ?_
  rintro e w3 ⟨hB3, hR3⟩
  have hV3 := HV.out.1.below hB3
  obtain ⟨z0, z1, z2, r0, r1, r2⟩ := id hV3.cells
  have HV3 := hid (And.intro hV3 (HV.out.2.trans (hB3.mono HV.out.2.size)))
  clear x0 x1 x2 hcall HV hV3 hB3
  change FRes w3 e (ncode n d n' d' c t) (outF t) at hR3
  rw [← HU.out] at hR3
  rcases hR3 with ⟨hc, rfl⟩ | ⟨hc, sg', pa', ka', ca', pb', kb', cb', rfl, hF3⟩
  · unfold zeroF
    go_wp2_with fail
    exact binary_ret rfl rfl (HV3.out.1.store trivial trivial trivial) ⟨below_set3 HV3.out.2 (by show w.heap.size ≤ w.heap.size + 1 + 1 + 1; omega), .inl ⟨hc, rfl⟩⟩
  · subst hc
    go_wp2_with fail
    exact binary_ret rfl rfl (HV3.out.1.store trivial trivial trivial) ⟨below_set3 HV3.out.2 (by show w.heap.size ≤ w.heap.size + 1 + 1 + 1; omega), .inr ⟨rfl, _, _, _, _, _, _, _, rfl, hid (hF3.out.store3 HV3.out.1 _ _ _)⟩⟩
end Go.Proofs.YtdinpeglclkjhaaDoor
