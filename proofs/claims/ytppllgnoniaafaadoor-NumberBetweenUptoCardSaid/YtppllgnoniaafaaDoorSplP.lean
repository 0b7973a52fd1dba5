/- The simplest number between two, in the program: the convergents. -/
import Derived.Test.YtppllgnoniaafaaDoorPowM
import Derived.Test.YtppllgnoniaafaaDoorSplM
namespace Go.Proofs.YtppllgnoniaafaaDoor
open Go.RowKit Dg

theorem follow_ret {W : World} {B : Nat} {x y z : Value} {tm : Array Value} {R : Ending → World → Prop} (h2 : tm[6]?.getD undef = .pointer (some ⟨B, 0, none⟩)) (hV : Var3 W B x y z) (hR : R (.returned (.agg #[x, y, z])) W) :
    bodyPost Tryd.prog Tryd.f119 R .ret { tmps := tm, defers := [] } W := by
  obtain ⟨c0, c1, c2, _, _, _⟩ := hV.cells
  exact bodyPost_ret (v := .agg #[x, y, z]) (by simp [results, Tryd.results119, go_sem, h2, c0, c1, c2]) rfl hR

set_option maxHeartbeats 8000000 in
set_option maxRecDepth 100000 in
theorem follow_any (va vb vq : Value) (n0 d0 n1 d1 f A : Nat) (w : World) (ha : FRep w va false n0 d0) (hb : FRep w vb false n1 d1) (hq : Rep W32 w vq f)
    (bn0 : n0 < W32 ^ A) (bd0 : d0 < W32 ^ A) (bn1 : n1 < W32 ^ A) (bd1 : d1 < W32 ^ A) (bf : f < W32 ^ A) (hA : A ≤ 1000) :
    Calls Tryd.prog 119 #[va, vb, vq] w fun e w' => ∃ v', e = .returned v' ∧ FRep w' v' false (f * n1 + n0) (f * d1 + d0) ∧ Below w.heap.size w w' := by
  obtain ⟨va1, va2, rfl, ra1, ra2⟩ := ha
  obtain ⟨vb1, vb2, rfl, rb1, rb2⟩ := hb
  have HM1 := hid (fun (W : World) (hW : Below w.heap.size w W) => Mul_any vq vb1 f n1 W (hq.below hW) (rb1.below hW) (lt_big bf (by omega)) (lt_big bn1 (by omega)))
  have HM2 := hid (fun (W : World) (hW : Below w.heap.size w W) => Mul_any vq vb2 f d1 W (hq.below hW) (rb2.below hW) (lt_big bf (by omega)) (lt_big bd1 (by omega)))
  have b1 : f * n1 < W32 ^ (A + A) := lt_mul bf bn1 (Nat.le_refl _)
  have b2 : f * d1 < W32 ^ (A + A) := lt_mul bf bd1 (Nat.le_refl _)
  have HA1 := hid (fun (W : World) (v1 : Value) (r1 : Rep W32 W v1 (f * n1)) (hW : Below w.heap.size w W) => Add_any v1 va1 (f * n1) n0 W r1 (ra1.below hW) (lt_big b1 (by omega)) (lt_big bn0 (by omega)))
  have HA2 := hid (fun (W : World) (v1 : Value) (r1 : Rep W32 W v1 (f * d1)) (hW : Below w.heap.size w W) => Add_any v1 va2 (f * d1) d0 W r1 (ra2.below hW) (lt_big b2 (by omega)) (lt_big bd0 (by omega)))
  clear bn0 bd0 bn1 bd1 bf hA b1 b2
  obtain ⟨p1, k1, c1, rfl, _⟩ := ra1
  obtain ⟨p2, k2, c2, rfl, _⟩ := ra2
  obtain ⟨p3, k3, c3, rfl, _⟩ := rb1
  obtain ⟨p4, k4, c4, rfl, _⟩ := rb2
  obtain ⟨p5, k5, c5, rfl, _⟩ := hq
  go_enter Tryd.func119, Tryd.ntmps119
  go_upto_region 1 with fail
  have hVa := ((Var3.alloc w (x := .bool false) (y := .slice p1 k1 c1) (z := .slice p2 k2 c2) 56 trivial trivial trivial).below ((Below.refl _ _).alloc (Nat.le_refl _) (.cells #[.bool false, .slice p3 k3 c3, .slice p4 k4 c4] 56))).below ((Below.refl _ _).alloc (Nat.le_refl _) (.cells #[.bool false, .slice none 0 0, .slice none 0 0] 56))
  have hVb := (Var3.alloc2 w (.cells #[.bool false, .slice p1 k1 c1, .slice p2 k2 c2] 56) (x := .bool false) (y := .slice p3 k3 c3) (z := .slice p4 k4 c4) 56 trivial trivial trivial).below ((Below.refl _ _).alloc (Nat.le_refl _) (.cells #[.bool false, .slice none 0 0, .slice none 0 0] 56))
  have hVr := Var3.alloc3 w (.cells #[.bool false, .slice p1 k1 c1, .slice p2 k2 c2] 56) (.cells #[.bool false, .slice p3 k3 c3, .slice p4 k4 c4] 56) (x := .bool false) (y := .slice none 0 0) (z := .slice none 0 0) 56 trivial trivial trivial
  have hB0 := below_alloc3 w (.cells #[.bool false, .slice p1 k1 c1, .slice p2 k2 c2] 56) (.cells #[.bool false, .slice p3 k3 c3, .slice p4 k4 c4] 56) (.cells #[.bool false, .slice none 0 0, .slice none 0 0] 56)
  generalize ((w.alloc (.cells #[.bool false, .slice p1 k1 c1, .slice p2 k2 c2] 56)).alloc (.cells #[.bool false, .slice p3 k3 c3, .slice p4 k4 c4] 56)).alloc (.cells #[.bool false, .slice none 0 0, .slice none 0 0] 56) = W0 at *
  have hn2 : w.heap.size + 1 + 1 ≤ W0.heap.size := by obtain ⟨_, h0, _⟩ := hVr; exact Nat.le_of_lt (Array.getElem?_eq_some_iff.1 h0).1
  have HV : Hid (Var3 W0 (w.heap.size + 1 + 1) (.bool false) (.slice none 0 0) (.slice none 0 0) ∧ Below w.heap.size w W0) := hid ⟨hVr, hB0⟩
  have HB := hid hB0
  have HS : Hid (∀ w', Below (w.heap.size + 1 + 1) W0 w' → (w'.cell? ⟨w.heap.size, 1, none⟩ = some (.slice p1 k1 c1) ∧ w'.cell? ⟨w.heap.size, 2, none⟩ = some (.slice p2 k2 c2) ∧ w'.cell? ⟨w.heap.size + 1, 1, none⟩ = some (.slice p3 k3 c3) ∧ w'.cell? ⟨w.heap.size + 1, 2, none⟩ = some (.slice p4 k4 c4) ∧ Hid (Below (w.heap.size + 1 + 1) W0 w'))) :=
    hid fun w' hb => ⟨(bcellN hb _ _ (by omega)).trans hVa.cells.2.1, (bcellN hb _ _ (by omega)).trans hVa.cells.2.2.1, (bcellN hb _ _ (by omega)).trans hVb.cells.2.1, (bcellN hb _ _ (by omega)).trans hVb.cells.2.2.1, hid hb⟩
  clear hVa hVb hVr hB0
  go_region_held3 (fun w' => w'.cell? ⟨w.heap.size, 1, none⟩ = some (.slice p1 k1 c1) ∧ w'.cell? ⟨w.heap.size, 2, none⟩ = some (.slice p2 k2 c2) ∧ w'.cell? ⟨w.heap.size + 1, 1, none⟩ = some (.slice p3 k3 c3) ∧ w'.cell? ⟨w.heap.size + 1, 2, none⟩ = some (.slice p4 k4 c4) ∧ Hid (Below (w.heap.size + 1 + 1) W0 w'))
    (first | exact HS.out _ (Below.refl _ _).drew | (exact HS.out _ (by assumption)) | exact HS.out _ (below_set3 (by assumption) (Nat.le_refl _)))
    (first
      | (go_at_call_of 82 k3; refine (HM1.out _ (HB.out.trans ((held4 (N := w.heap.size + 1 + 1) (W0 := W0) (by assumption)).mono (by omega)))).mono ?_; rintro e wa ⟨v6, rfl, hR6, hBa⟩; have hKa := held_any (by first | assumption | exact (Below.refl _ _).drew) hBa; have hKa2 := below_pre hKa hn2; obtain ⟨p6, k6, c6, rfl, hx6⟩ := id hR6; clear hx6)
      | (go_at_call_of 73 k6; refine (HA1.out _ _ hR6 (HB.out.trans (hKa.mono (by omega)))).mono ?_; rintro e wb ⟨v7, rfl, hR7, hBb⟩; have hKb := held_any hKa hBb; have hKb2 := below_pre hKb hn2; obtain ⟨p7, k7, c7, rfl, hx7⟩ := id hR7; clear hx7)
      | (go_at_call_of 82 k4; refine (HM2.out _ (HB.out.trans (hKb.mono (by omega)))).mono ?_; rintro e wc ⟨v8, rfl, hR8, hBc⟩; have hKc := held_any hKb hBc; have hKc2 := below_pre hKc hn2; obtain ⟨p8, k8, c8, rfl, hx8⟩ := id hR8; clear hx8)
      | (go_at_call_of 73 k8; refine (HA2.out _ _ hR8 (HB.out.trans (hKc.mono (by omega)))).mono ?_; rintro e wd ⟨v9, rfl, hR9, hBd⟩; have hKd := held_any hKc hBd; have hKd2 := below_pre hKd hn2; obtain ⟨p9, k9, c9, rfl, hx9⟩ := id hR9; clear hx9; obtain ⟨x0, x1, x2, y0, y1, y2⟩ := (HV.out.1.below hKd).cells))
  rename_i hHeld
  clear hHeld
  have HVd := HV.out.1.below hKd
  go_wp2_with fail
  exact follow_ret rfl (HVd.store trivial trivial trivial) ⟨_, rfl, ⟨_, _, rfl, ((hR7.below hBc).below hBd).store3 HVd _ _ _, hR9.store3 HVd _ _ _⟩, below_set3 (HV.out.2.trans (hKd.mono HV.out.2.size)) (by show w.heap.size ≤ w.heap.size + 1 + 1; omega)⟩
end Go.Proofs.YtppllgnoniaafaaDoor
