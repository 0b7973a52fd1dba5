/- The root of a number, in the program. -/
import Derived.Test.YtnoonhomjnpbjaaDoorRootG
namespace Go.Proofs.YtnoonhomjnpbjaaDoor
open Go.RowKit Dg Rt

/-- A number, a bool and an error are returned. -/
def FRes3 (w : World) (e : Ending) (c : Int) (b : Bool) (t : Bool × Nat × Nat) : Prop :=
  (c ≠ 0 ∧ e = .returned (.tuple #[zeroF, .bool b, .int .i64 c])) ∨
  (c = 0 ∧ ∃ sg pa ka ca pb kb cb, e = .returned (.tuple #[.agg #[.bool sg, .slice pa ka ca, .slice pb kb cb], .bool b, .int .i64 0]) ∧ Hid (FNorm w (.agg #[.bool sg, .slice pa ka ca, .slice pb kb cb]) t))
/-- Whether Root finds a root. -/
noncomputable def rfound (n d : Nat) (t : Bool × Nat × Nat) (p : Int) : Bool := if large n d then false else (decide (rtc p = 0) && rootOk t p.natAbs)
theorem Box.new (w : World) (t : Nat) (b : Bool) : Box (w.alloc (.cells #[.bool b] t)) w.heap.size b := ⟨t, heap_alloc_new w _⟩
theorem Box.upon {w w' : World} {F B : Nat} {b : Bool} (h : Box w F b) (hB : B < F) (hu : UponF B w w') : Box w' F b := by
  obtain ⟨t, h0⟩ := h
  exact ⟨t, by rw [hu.2 _ hB (Array.getElem?_eq_some_iff.1 h0).1]; exact h0⟩
theorem UponF.drew0 (F : Nat) (W : World) : UponF F W W.drew := ⟨(Below.refl _ _).drew, fun _ _ _ => rfl⟩
theorem UponF.set3 {F : Nat} {W w' : World} (h : UponF F W w') (x y z : Value) : UponF F W (((w'.setCell ⟨F, 0, none⟩ x).setCell ⟨F, 1, none⟩ y).setCell ⟨F, 2, none⟩ z) :=
  ⟨((h.1.setCell (Nat.le_refl _) x).setCell (Nat.le_refl _) y).setCell (Nat.le_refl _) z, fun i h1 h2 => (Below.heap_setCell _ _ _ _ (by show i ≠ F; omega)).trans ((Below.heap_setCell _ _ _ _ (by show i ≠ F; omega)).trans ((Below.heap_setCell _ _ _ _ (by show i ≠ F; omega)).trans (h.2 i h1 h2)))⟩
theorem Var3.keepN {w w' : World} {B N : Nat} {x y z : Value} (h : Var3 w B x y z) (hN : B < N) (hb : Below N w w') : Var3 w' B x y z := by
  obtain ⟨t, h0, h1⟩ := h
  exact ⟨t, by rw [hb.block _ hN]; exact h0, h1⟩
theorem rootr_bd {t : Bool × Nat × Nat} {p : Int} (h1 : t.2.1 < W32 ^ 64) (h2 : t.2.2 < W32 ^ 64) (hc : rtc p = 0) : (rootr t p.natAbs).2.1 < W32 ^ 1000000000 ∧ (rootr t p.natAbs).2.2 < W32 ^ 1000000000 := by
  have hr : 0 < p.natAbs := by
    unfold rtc at hc
    split at hc
    · exact absurd hc (by decide)
    · omega
  unfold rootr
  split
  · exact ⟨lt_big (Nat.lt_of_le_of_lt (nroot_le hr) h1) (by omega), lt_big (Nat.lt_of_le_of_lt (nroot_le hr) h2) (by omega)⟩
  · exact ⟨lt_big (a := 1) (by rw [W32_val]; decide) (by omega), lt_big (a := 1) (by rw [W32_val]; decide) (by omega)⟩
theorem nRoot_ret {W : World} {B : Nat} {x y z ev ew : Value} {tm : Array Value} {R : Ending → World → Prop} (h2 : tm[4]?.getD undef = .pointer (some ⟨B, 0, none⟩)) (h3 : tm[5]?.getD undef = ew) (h4 : tm[6]?.getD undef = ev) (hV : Var3 W B x y z)
    (hR : R (.returned (.tuple #[.agg #[x, y, z], ew, ev])) W) : bodyPost Tryd.prog Tryd.f8 R .ret { tmps := tm, defers := [] } W := by
  obtain ⟨c0, c1, c2, _, _, _⟩ := hV.cells
  exact bodyPost_ret (v := .tuple #[.agg #[x, y, z], ew, ev]) (by simp [results, Tryd.results8, go_sem, h2, h3, h4, c0, c1, c2]) rfl hR

set_option maxHeartbeats 4000000 in
set_option maxRecDepth 100000 in
theorem nRoot_any (v : Value) (s : Bool) (n d : Nat) (p : Int) (w : World) (h : ARep w v s n d) (ht : TabOk w) :
    Calls Tryd.prog 8 #[v, .int .i64 p] w fun e w' => Below w.heap.size w w' ∧ FRes3 w' e (ucode n d (rtc p) (rootr (frac s n (den1 d)) p.natAbs)) (rfound n d (frac s n (den1 d)) p) (outF (rootr (frac s n (den1 d)) p.natAbs)) := by
  have hA := hid h
  obtain ⟨vn, vd, rfl, ⟨p1, k1, c1, rfl, _⟩, ⟨p2, k2, c2, rfl, _⟩⟩ := h
  obtain ⟨tr, htr⟩ : ∃ U, U = rootr (frac s n (den1 d)) p.natAbs := ⟨_, rfl⟩
  obtain ⟨cc, hcc⟩ : ∃ U, U = rtc p := ⟨_, rfl⟩
  obtain ⟨U, hU⟩ : ∃ U, U = ucode n d cc tr := ⟨_, rfl⟩
  obtain ⟨fb, hfb⟩ : ∃ U, U = rfound n d (frac s n (den1 d)) p := ⟨_, rfl⟩
  have HQ := hid (And.intro htr (And.intro hcc hfb))
  rw [← htr, ← hcc, ← hU, ← hfb]
  have HU := hid hU
  have HT := hid ht
  clear hU ht htr hcc hfb
  go_enter Tryd.func8, Tryd.ntmps8
  go_upto_region 1 with fail
  have hK := below_alloc3 w (.cells #[.bool s, .slice p1 k1 c1, .slice p2 k2 c2] 24) (.cells #[.int .i64 p] 3) (.cells #[.bool false, .slice none 0 0, .slice none 0 0] 24)
  have hVa := ((Var3.alloc w (x := .bool s) (y := .slice p1 k1 c1) (z := .slice p2 k2 c2) 24 trivial trivial trivial).below ((Below.refl _ _).alloc (Nat.le_refl _) (.cells #[.int .i64 p] 3))).below ((Below.refl _ _).alloc (Nat.le_refl _) (.cells #[.bool false, .slice none 0 0, .slice none 0 0] 24))
  have hpc := (PCell.new2 w (.cells #[.bool s, .slice p1 k1 c1, .slice p2 k2 c2] 24) p 3).below ((Below.refl _ _).alloc (Nat.le_refl _) (.cells #[.bool false, .slice none 0 0, .slice none 0 0] 24))
  have hVr := Var3.alloc3 w (.cells #[.bool s, .slice p1 k1 c1, .slice p2 k2 c2] 24) (.cells #[.int .i64 p] 3) (x := .bool false) (y := .slice none 0 0) (z := .slice none 0 0) 24 trivial trivial trivial
  generalize ((w.alloc (.cells #[.bool s, .slice p1 k1 c1, .slice p2 k2 c2] 24)).alloc (.cells #[.int .i64 p] 3)).alloc (.cells #[.bool false, .slice none 0 0, .slice none 0 0] 24) = W0 at *
  have HV0 := hid (And.intro hVr (And.intro hK (And.intro hVa hpc)))
  clear hVr hK hVa hpc
  go_upto_region 2 with fail
  have hk1 := (Below.refl W0.heap.size W0).alloc (Nat.le_refl _) (.cells #[.bool false] 4)
  have hbx := Box.new W0 4 false
  have hF : w.heap.size ≤ W0.heap.size := HV0.out.2.1.size
  have hF2 : w.heap.size + 2 < W0.heap.size := by obtain ⟨_, h0, _⟩ := HV0.out.1; exact (Array.getElem?_eq_some_iff.1 h0).1
  generalize W0.alloc (.cells #[.bool false] 4) = W1 at *
  have hVr := HV0.out.1.below hk1
  have hVa := HV0.out.2.2.1.below hk1
  have hpc := HV0.out.2.2.2.below hk1
  have hK := HV0.out.2.1.trans (hk1.mono hF)
  generalize W0.heap.size = F at *
  clear HV0 hk1
  obtain ⟨x0, x1, x2, _⟩ := id hVa.cells
  have hcall := hid (unary_found F F (decide (rtc p = 0) && rootOk (frac s n (den1 d)) p.natAbs) 29 #[.pointer (some ⟨w.heap.size + 1, 0, none⟩), .pointer (some ⟨F, 0, none⟩)] _ s n d cc tr W1 (hA.out.below hK) (HT.out.below hK) (Nat.le_refl _) hbx enterRoot1
    (fun W v' hW hL hF => by rw [HQ.out.1, HQ.out.2.1]; exact Root1_any (w.heap.size + 1) F v' _ p W (hpc.below hW) hF ((HT.out.below hK).below hW) (hbx.below hW) (large_bd hL).1 (large_bd hL).2)
    (fun hL hc => by rw [HQ.out.1]; exact rootr_bd (large_bd hL).1 (large_bd hL).2 (by rw [← HQ.out.2.1]; exact hc)))
  rw [← HU.out, show (if large n d then false else (decide (rtc p = 0) && rootOk (frac s n (den1 d)) p.natAbs)) = fb from HQ.out.2.2.symm] at hcall
  have HV := hid (And.intro hVr (And.intro hK (And.intro hF hF2)))
  clear hVr hVa hK hpc hbx hF hF2
  go_wp2_with fail
  refine hcall.out.mono ?_
  rintro e w3 ⟨hB3, hR3, hX3⟩
  clear x0 x1 x2 hcall
  have hV3 : Var3 w3 (w.heap.size + 1 + 1) (.bool false) (.slice none 0 0) (.slice none 0 0) := HV.out.1.keepN HV.out.2.2.2 hB3
  have hK3 := HV.out.2.1.trans (hB3.mono HV.out.2.2.1)
  rcases hR3 with ⟨hc, rfl⟩ | ⟨hc, sg', pa', ka', ca', pb', kb', cb', rfl, hF3⟩
  · unfold zeroF
    go_upto_region 3 with fail
    have hal := (Below.refl w3.heap.size w3).alloc (Nat.le_refl _) (.cells #[.bool false, .slice none 0 0, .slice none 0 0] 24)
    have hR4 := Var3.alloc w3 (x := .bool false) (y := .slice none 0 0) (z := .slice none 0 0) 24 trivial trivial trivial
    have hX4 := hX3.below hal
    have hFX := hX3.lt
    have hV4 := hV3.below hal
    have hK4 := hK3.trans (hal.mono hK3.size)
    generalize w3.alloc (.cells #[.bool false, .slice none 0 0, .slice none 0 0] 24) = W4 at *
    generalize w3.heap.size = X at *
    clear hV3 hX3 hK3 hB3 hal
    have hBF : w.heap.size + 1 + 1 < F := HV.out.2.2.2
    have HS : Hid (∀ w', UponF (w.heap.size + 1 + 1) W4 w' → (w'.cell? ⟨X, 0, none⟩ = some (.bool false) ∧ w'.cell? ⟨X, 1, none⟩ = some (.slice none 0 0) ∧ w'.cell? ⟨X, 2, none⟩ = some (.slice none 0 0) ∧ w'.cell? ⟨F, 0, none⟩ = some (.bool fb) ∧ Hid (UponF (w.heap.size + 1 + 1) W4 w'))) :=
      hid fun w' hb => ⟨(hR4.upon (by omega) hb).cells.1, (hR4.upon (by omega) hb).cells.2.1, (hR4.upon (by omega) hb).cells.2.2.1, (hX4.upon hBF hb).cell.1, hid hb⟩
    have HE := hid (And.intro hV4 (And.intro hK4 hc))
    obtain ⟨y0, y1, y2, z0, z1, z2⟩ := id hV4.cells
    have HB := hid (And.intro hBF hFX)
    clear hR4 hX4 hV4 hK4 hBF hFX hc
    go_wp2_with fail
    go_region_held3 (fun w' => w'.cell? ⟨X, 0, none⟩ = some (.bool false) ∧ w'.cell? ⟨X, 1, none⟩ = some (.slice none 0 0) ∧ w'.cell? ⟨X, 2, none⟩ = some (.slice none 0 0) ∧ w'.cell? ⟨F, 0, none⟩ = some (.bool fb) ∧ Hid (UponF (w.heap.size + 1 + 1) W4 w'))
      (first | exact HS.out _ (UponF.drew0 _ W4) | (exact HS.out _ ((UponF.drew0 _ W4).set3 _ _ _)) | (exact HS.out _ (by assumption)))
      (fail)
    rename_i hHeld
    clear hHeld
    go_wp2_with fail
    exact nRoot_ret rfl rfl rfl (HE.out.1.store trivial trivial trivial) ⟨(below_set3 (B := w.heap.size + 1 + 1) HE.out.2.1 (by omega)).drew, .inl ⟨HE.out.2.2, rfl⟩⟩
  · subst hc
    go_upto_region 3 with fail
    have hal := (Below.refl w3.heap.size w3).alloc (Nat.le_refl _) (.cells #[.bool sg', .slice pa' ka' ca', .slice pb' kb' cb'] 24)
    have hR4 := Var3.alloc w3 (x := .bool sg') (y := .slice pa' ka' ca') (z := .slice pb' kb' cb') 24 trivial trivial trivial
    have hX4 := hX3.below hal
    have hFX := hX3.lt
    have hV4 := hV3.below hal
    have hK4 := hK3.trans (hal.mono hK3.size)
    have hF4 := hF3.out.below hal
    clear hF3
    generalize w3.alloc (.cells #[.bool sg', .slice pa' ka' ca', .slice pb' kb' cb'] 24) = W4 at *
    generalize w3.heap.size = X at *
    clear hV3 hX3 hK3 hB3 hal
    have hBF : w.heap.size + 1 + 1 < F := HV.out.2.2.2
    have HS : Hid (∀ w', UponF (w.heap.size + 1 + 1) W4 w' → (w'.cell? ⟨X, 0, none⟩ = some (.bool sg') ∧ w'.cell? ⟨X, 1, none⟩ = some (.slice pa' ka' ca') ∧ w'.cell? ⟨X, 2, none⟩ = some (.slice pb' kb' cb') ∧ w'.cell? ⟨F, 0, none⟩ = some (.bool fb) ∧ Hid (UponF (w.heap.size + 1 + 1) W4 w'))) :=
      hid fun w' hb => ⟨(hR4.upon (by omega) hb).cells.1, (hR4.upon (by omega) hb).cells.2.1, (hR4.upon (by omega) hb).cells.2.2.1, (hX4.upon hBF hb).cell.1, hid hb⟩
    have HE := hid (And.intro hV4 (And.intro hK4 hF4))
    obtain ⟨y0, y1, y2, z0, z1, z2⟩ := id hV4.cells
    have HB := hid (And.intro hBF hFX)
    clear hR4 hX4 hV4 hK4 hBF hFX hF4
    go_wp2_with fail
    go_region_held3 (fun w' => w'.cell? ⟨X, 0, none⟩ = some (.bool sg') ∧ w'.cell? ⟨X, 1, none⟩ = some (.slice pa' ka' ca') ∧ w'.cell? ⟨X, 2, none⟩ = some (.slice pb' kb' cb') ∧ w'.cell? ⟨F, 0, none⟩ = some (.bool fb) ∧ Hid (UponF (w.heap.size + 1 + 1) W4 w'))
      (first | exact HS.out _ (UponF.drew0 _ W4) | (exact HS.out _ ((UponF.drew0 _ W4).set3 _ _ _)) | (exact HS.out _ (by assumption)))
      (fail)
    rename_i hHeld
    clear hHeld
    go_wp2_with fail
    exact nRoot_ret rfl rfl rfl (HE.out.1.store trivial trivial trivial) ⟨(below_set3 (B := w.heap.size + 1 + 1) HE.out.2.1 (by omega)).drew, .inr ⟨rfl, _, _, _, _, _, _, _, rfl, hid (HE.out.2.2.store3 HE.out.1 _ _ _)⟩⟩
end Go.Proofs.YtnoonhomjnpbjaaDoor
