/- The law NumberPowers. -/
import Derived.Test.YtnoonhomjnpbjaaDoorPwrM
namespace Go.Proofs.YtnoonhomjnpbjaaDoor
open Go.RowKit Dg Rt

def URes3 (w : World) (e : Ending) (c : Int) (b : Bool) (r : Bool × Nat × Nat) : Prop :=
  ∃ sg pa ka ca pb kb cb, e = .returned (.tuple #[.agg #[.bool sg, .slice pa ka ca, .slice pb kb cb], .bool b, .int .i64 c]) ∧ Hid (NRep w (.agg #[.bool sg, .slice pa ka ca, .slice pb kb cb]) r)
theorem FRes3.two {w : World} {e : Ending} {c : Int} {b : Bool} {t : Bool × Nat × Nat} (h : FRes3 w e c b (outF t)) (hb : c = 0 → big t.2.1 t.2.2 = false) : URes3 w e c b (resT c t) := by
  have h2 : ∃ e2, FRes w e2 c (outF t) ∧ ∀ sg pa ka ca pb kb cb, e2 = .returned (.tuple #[.agg #[.bool sg, .slice pa ka ca, .slice pb kb cb], .int .i64 c]) → e = .returned (.tuple #[.agg #[.bool sg, .slice pa ka ca, .slice pb kb cb], .bool b, .int .i64 c]) := by
    rcases h with ⟨h0, rfl⟩ | ⟨rfl, sg, pa, ka, ca, pb, kb, cb, rfl, hF⟩
    · refine ⟨_, .inl ⟨h0, rfl⟩, fun sg pa ka ca pb kb cb h => ?_⟩
      unfold zeroF at h ⊢
      simp only [Ending.returned.injEq, Value.tuple.injEq, Array.mk.injEq, List.cons.injEq, and_true] at h ⊢
      exact h
    · refine ⟨_, .inr ⟨rfl, sg, pa, ka, ca, pb, kb, cb, rfl, hF⟩, fun sg pa ka ca pb kb cb h => ?_⟩
      simp only [Ending.returned.injEq, Value.tuple.injEq, Array.mk.injEq, List.cons.injEq, and_true] at h ⊢
      exact h
  obtain ⟨e2, hF, he⟩ := h2
  obtain ⟨sg, pa, ka, ca, pb, kb, cb, rfl, hN⟩ := FRes.uni hF hb
  exact ⟨sg, pa, ka, ca, pb, kb, cb, he _ _ _ _ _ _ _ rfl, hN⟩

theorem Raw.store3 {w : World} {B : Nat} {a b c : Value} {v : Value} {n : Nat} (h : Raw w v n) (hV : Var3 w B a b c) (x y z : Value) : Raw (((w.setCell ⟨B, 0, none⟩ x).setCell ⟨B, 1, none⟩ y).setCell ⟨B, 2, none⟩ z) v n := by
  obtain ⟨p, k, cap, hv, hk, hl, hx, hs⟩ := h
  refine ⟨p, k, cap, hv, hk, hl, hx, fun h0 => ?_⟩
  obtain ⟨bb, off, hp, hc⟩ := hs h0
  obtain ⟨t, h1, na, nb, nc⟩ := hV
  have hne : bb ≠ B := by
    rintro rfl
    have hc0 := hc 0 h0
    rw [Nat.add_zero] at hc0
    simp only [World.cell?, h1] at hc0
    rcases off with _ | _ | _ | off
    · simp at hc0; subst hc0; exact na
    · simp at hc0; subst hc0; exact nb
    · simp at hc0; subst hc0; exact nc
    · simp at hc0
  refine ⟨bb, off, hp, fun j hj => ?_⟩
  rw [World.cell?_of_block (w := w) (a := ⟨bb, off + j, none⟩)]
  · exact hc j hj
  · show (((w.setCell ⟨B, 0, none⟩ x).setCell ⟨B, 1, none⟩ y).setCell ⟨B, 2, none⟩ z).heap[bb]? = _
    rw [Below.heap_setCell _ _ _ _ hne, Below.heap_setCell _ _ _ _ hne, Below.heap_setCell _ _ _ _ hne]
theorem NRep.store3 {w : World} {B : Nat} {a b c : Value} {v : Value} {t : Bool × Nat × Nat} (h : NRep w v t) (hV : Var3 w B a b c) (x y z : Value) : NRep (((w.setCell ⟨B, 0, none⟩ x).setCell ⟨B, 1, none⟩ y).setCell ⟨B, 2, none⟩ z) v t := by
  obtain ⟨vn, vd, hv, h1, h2⟩ := h
  exact ⟨vn, vd, hv, h1.store3 hV x y z, h2.store3 hV x y z⟩
theorem Var3.lt {w : World} {B : Nat} {x y z : Value} (h : Var3 w B x y z) : B < w.heap.size := by
  obtain ⟨t, h0, _⟩ := h
  exact (Array.getElem?_eq_some_iff.1 h0).1
theorem same_selfP {s : Bool} {n d : Nat} : SameQ s n d s n d := by
  by_cases h : n = 0
  · exact .inl ⟨h, h⟩
  · exact .inr ⟨h, h, rfl, rfl⟩
theorem w_16 {x : Nat} (h : x < W32 ^ 64) : x < B16 ^ 400000000 := by
  generalize hA : 400000000 = A
  exact lt_W_B6 h (by omega)

set_option maxHeartbeats 16000000 in
set_option maxRecDepth 100000 in
theorem NumberPowers_nat (vx : Value) (x : Bool × Nat × Nat) (n p : Nat) (w : World) (hx : NRep w vx x) (hn : n < 256) (hp : p < 256) (ht : TabOk w) :
    Calls Tryd.prog 6 #[vx, .int .u8 (n : Int), .int .u8 (p : Int)] w fun e w' => e = .returned (.bool true) ∧ Below w.heap.size w w' := by
  have HX := hid hx
  obtain ⟨_, _, rfl, ⟨pa, ka, ca, rfl, _⟩, ⟨pb, kb, cb, rfl, _⟩⟩ := hx
  obtain ⟨sx, hsx⟩ : ∃ s, s = x.1 := ⟨_, rfl⟩
  have hal := (Below.refl w.heap.size w).alloc (Nat.le_refl _) (.cells #[.bool sx, .slice pa ka ca, .slice pb kb cb] 24)
  have hV := Var3.alloc w (x := .bool sx) (y := .slice pa ka ca) (z := .slice pb kb cb) 24 trivial trivial trivial
  rw [← hsx] at HX ⊢
  clear hsx
  have HX0 := hid (HX.out.below hal)
  have HT0 := hid (ht.below hal)
  have HB := hid hal
  have HTw := hid ht
  have HVx := hid hV
  clear HX ht hal hV
  have HNP := hid (And.intro hn hp)
  clear hn hp
  obtain ⟨k, hk⟩ : ∃ k, k = 2 + n % 7 := ⟨_, rfl⟩
  have h2 : 2 ≤ k := by omega
  have h8 : k ≤ 8 := by omega
  obtain ⟨g1, hg1⟩ : ∃ g, g = ucode x.2.1 x.2.2 (powc (fr x) k) (powr (fr x) k) := ⟨_, rfl⟩
  obtain ⟨r1, hr1⟩ : ∃ g, g = resT (ucode x.2.1 x.2.2 (powc (fr x) k) (powr (fr x) k)) (powr (fr x) k) := ⟨_, rfl⟩
  obtain ⟨r2, hr2⟩ : ∃ g, g = (if k % 2 = 1 then outF (fr x) else outF (fabs (fr x))) := ⟨_, rfl⟩
  obtain ⟨r3, hr3⟩ : ∃ g, g = outF (fabs (fr x)) := ⟨_, rfl⟩
  obtain ⟨r4, hr4⟩ : ∃ g, g = outF (fr x) := ⟨_, rfl⟩
  obtain ⟨g5, hg5⟩ : ∃ g, g = ucode x.2.1 x.2.2 (gcode (fr x) k p) (grdn (fr x) k p) := ⟨_, rfl⟩
  obtain ⟨r5, hr5⟩ : ∃ g, g = resT (ucode x.2.1 x.2.2 (gcode (fr x) k p) (grdn (fr x) k p)) (grdn (fr x) k p) := ⟨_, rfl⟩
  obtain ⟨g6, hg6⟩ : ∃ g, g = ucode x.2.1 x.2.2 (gcode (fr x) k p) (grup (fr x) k p) := ⟨_, rfl⟩
  obtain ⟨r6, hr6⟩ : ∃ g, g = resT (ucode x.2.1 x.2.2 (gcode (fr x) k p) (grup (fr x) k p)) (grup (fr x) k p) := ⟨_, rfl⟩
  obtain ⟨g7, hg7⟩ : ∃ g, g = ucode r5.2.1 r5.2.2 (powc (fr r5) k) (powr (fr r5) k) := ⟨_, rfl⟩
  obtain ⟨r7, hr7⟩ : ∃ g, g = resT (ucode r5.2.1 r5.2.2 (powc (fr r5) k) (powr (fr r5) k)) (powr (fr r5) k) := ⟨_, rfl⟩
  obtain ⟨g8, hg8⟩ : ∃ g, g = ucode r6.2.1 r6.2.2 (powc (fr r6) k) (powr (fr r6) k) := ⟨_, rfl⟩
  obtain ⟨r8, hr8⟩ : ∃ g, g = resT (ucode r6.2.1 r6.2.2 (powc (fr r6) k) (powr (fr r6) k)) (powr (fr r6) k) := ⟨_, rfl⟩
  have HPw := hid (fun (W : World) (v : Value) (h : NRep W v x) (ht : TabOk W) => (nPow_any v _ _ _ (k : Int) W h ht).mono (R' := fun e w' => Below W.heap.size W w' ∧ URes w' e g1 r1) fun _ _ hR => ⟨hR.1, by rw [hg1, hr1]; exact FRes.uni hR.2 (fun h => (ucode_big h).2.2)⟩)
  have HDn := hid (fun (W : World) (v : Value) (h : NRep W v x) (ht : TabOk W) => (nRootDown_any v _ _ _ (k : Int) (p : Int) W h ht).mono (R' := fun e w' => Below W.heap.size W w' ∧ URes w' e g5 r5) fun _ _ hR => ⟨hR.1, by rw [hg5, hr5]; exact FRes.uni hR.2 (fun h => (ucode_big h).2.2)⟩)
  have HUp := hid (fun (W : World) (v : Value) (h : NRep W v x) (ht : TabOk W) => (nRootUp_any v _ _ _ (k : Int) (p : Int) W h ht).mono (R' := fun e w' => Below W.heap.size W w' ∧ URes w' e g6 r6) fun _ _ hR => ⟨hR.1, by rw [hg6, hr6]; exact FRes.uni hR.2 (fun h => (ucode_big h).2.2)⟩)
  have HP5 := hid (fun (W : World) (v : Value) (h : NRep W v r5) (ht : TabOk W) => (nPow_any v _ _ _ (k : Int) W h ht).mono (R' := fun e w' => Below W.heap.size W w' ∧ URes w' e g7 r7) fun _ _ hR => ⟨hR.1, by rw [hg7, hr7]; exact FRes.uni hR.2 (fun h => (ucode_big h).2.2)⟩)
  have HP6 := hid (fun (W : World) (v : Value) (h : NRep W v r6) (ht : TabOk W) => (nPow_any v _ _ _ (k : Int) W h ht).mono (R' := fun e w' => Below W.heap.size W w' ∧ URes w' e g8 r8) fun _ _ hR => ⟨hR.1, by rw [hg8, hr8]; exact FRes.uni hR.2 (fun h => (ucode_big h).2.2)⟩)
  have HC7 := hid (fun (W : World) (v u : Value) (h : NRep W v r7) (hy : NRep W u x) (ht : TabOk W) => nCompare_any v u r7 x W h hy ht)
  have HC8 := hid (fun (W : World) (v u : Value) (h : NRep W v x) (hy : NRep W u r8) (ht : TabOk W) => nCompare_any v u x r8 W h hy ht)
  have HRoot := hid (fun (h : g1 = 0) => powers_root (x := x) (r := r1) h2 h8 (hg1.symm.trans h) (by rw [hr1, ← hg1, h]; rfl))
  have HRt := hid (fun (hz : g1 = 0) (W : World) (v : Value) (h : NRep W v r1) (ht : TabOk W) => (nRoot_any v _ _ _ (k : Int) W h ht).mono (R' := fun e w' => Below W.heap.size W w' ∧ URes3 w' e 0 true r2) fun e w' hR => ⟨hR.1, by
    obtain ⟨e1, e2, e3, _⟩ := HRoot.out hz
    have h3 := FRes3.two hR.2 (fun h => (ucode_big h).2.2)
    rw [show ((k : Int)).natAbs = k from rfl] at h3
    rw [show ucode r1.2.1 r1.2.2 (rtc k) (rootr (frac r1.1 r1.2.1 (den1 r1.2.2)) k) = 0 from e1, show rfound r1.2.1 r1.2.2 (frac r1.1 r1.2.1 (den1 r1.2.2)) k = true from e2] at h3
    rw [hr2, ← e3]
    exact h3⟩)
  have HAb := hid (fun (hz : g1 = 0) (W : World) (v : Value) (h : NRep W v x) (ht : TabOk W) => (nAbs_any v _ _ _ W h ht).mono (R' := fun e w' => Below W.heap.size W w' ∧ URes w' e 0 r3) fun e w' hR => ⟨hR.1, by
    obtain ⟨_, _, _, e4, _⟩ := HRoot.out hz
    have h3 := FRes.uni hR.2 (fun h => (ucode_big h).2.2)
    rw [show ucode x.2.1 x.2.2 0 (fabs (frac x.1 x.2.1 (den1 x.2.2))) = 0 from e4] at h3
    rw [hr3]
    exact h3⟩)
  have HCa := hid (fun (hz : g1 = 0) (W : World) (v : Value) (h : NRep W v x) (ht : TabOk W) => (nCanon_any v _ _ _ W h ht).mono (R' := fun e w' => Below W.heap.size W w' ∧ URes w' e 0 r4) fun e w' hR => ⟨hR.1, by
    obtain ⟨_, _, _, _, e5⟩ := HRoot.out hz
    have h3 := FRes.uni hR.2 (fun h => (ucode_big h).2.2)
    rw [show ucode x.2.1 x.2.2 0 (frac x.1 x.2.1 (den1 x.2.2)) = 0 from e5] at h3
    rw [hr4]
    exact h3⟩)
  have HEq := hid (fun (hz : g1 = 0) (W : World) (v u : Value) (h : NRep W v r2) (hu : NRep W u r2) => (by
    have hb := fr_bd (ucode_big (hg1.symm.trans hz)).1
    have hr : r2.2.1 < W32 ^ 64 ∧ r2.2.2 < W32 ^ 64 := by
      have hd : den0 (fr x).2.2 < W32 ^ 64 := by unfold den0; split; exact Nat.pow_pos W32_pos; exact hb.2
      rw [hr2]
      split
      · exact ⟨hb.1, hd⟩
      · exact ⟨hb.1, hd⟩
    exact Equal_any v _ _ _ u _ _ _ W h hu (w_16 hr.1) (w_16 hr.2) (w_16 hr.1) (w_16 hr.2) same_selfP : Calls Tryd.prog 19 #[v, u] W fun e w' => e = .returned (.bool true) ∧ Below W.heap.size W w'))
  have HLo := hid (fun (e1 : g5 = 0) (e2 : g7 = 0) => powers_lo (x := x) (a := r5) (c := r7) h2 h8 (hg5.symm.trans e1) (by rw [hr5, ← hg5, e1]; rfl) (hg7.symm.trans e2) (by rw [hr7, ← hg7, e2]; rfl))
  have HHi := hid (fun (e1 : g6 = 0) (e2 : g8 = 0) => powers_hi (x := x) (a := r6) (c := r8) h2 h8 (hg6.symm.trans e1) (by rw [hr6, ← hg6, e1]; rfl) (hg8.symm.trans e2) (by rw [hr8, ← hg8, e2]; rfl))
  have HR3 : Hid (k % 2 = 1 → r2 = r4) := hid fun h => by rw [hr2, hr4, if_pos h]
  have HR4 : Hid (¬ k % 2 = 1 → r2 = r3) := hid fun h => by rw [hr2, hr3, if_neg h]
  have hkw : (2 : Int) + (n : Int) % 7 = (k : Int) := by omega
  have HK := hid (And.intro h2 h8)
  have hodd : ((k : Int) % 2 == 1) = decide (k % 2 = 1) := by
    by_cases h : k % 2 = 1
    · rw [decide_eq_true h, show (k : Int) % 2 = 1 by omega]; rfl
    · rw [decide_eq_false h, show (k : Int) % 2 = 0 by omega]; rfl
  have hodd2 : (Int.tmod (k : Int) 2 == 1) = decide (k % 2 = 1) := by rw [Int.tmod_eq_emod_of_nonneg (by omega)]; exact hodd
  clear hk hg1 hr1 hr2 hr3 hr4 hg5 hr5 hg6 hr6 hg7 hr7 hg8 hr8 h2 h8 HRoot
  go_enter Tryd.func6, Tryd.ntmps6
  go_upto_region 1 with fail
  generalize w.alloc (.cells #[.bool sx, .slice pa ka ca, .slice pb kb cb] 24) = W0 at *
  have hpw : IntKind.i64.wrap (p : Int) = p := by rw [IntKind.wrap_i64]; have := HNP.out.2; omega
  go_upto_region 2 with fail
  clear hkw
  obtain ⟨a0, a1, a2, _⟩ := HVx.out.cells
  go_wp2_with fail
  refine (HPw.out _ _ HX0.out HT0.out).mono ?_
  rintro e wy ⟨hB1, sny, pny, kny, cny, qny, lny, dny, rfl, hF⟩
  clear a0 a1 a2
  go_upto_region 3 with fail
  have hal := (Below.refl wy.heap.size wy).alloc (Nat.le_refl _) (.cells #[.bool sny, .slice pny kny cny, .slice qny lny dny] 24)
  have hV := Var3.alloc wy (x := .bool sny) (y := .slice pny kny cny) (z := .slice qny lny dny) 24 trivial trivial trivial
  have hst := held_any hB1 hal
  have HFy := hid (hF.out.below hal)
  clear hB1 hal hF
  generalize wy.alloc (.cells #[.bool sny, .slice pny kny cny, .slice qny lny dny] 24) = Vy at *
  generalize wy.heap.size = By at *
  replace HX0 := hid (HX0.out.below hst)
  replace HT0 := hid (HT0.out.below hst)
  replace HVx := hid (HVx.out.below hst)
  replace HB := hid (HB.out.trans (hst.mono HB.out.size))
  have HVy := hid hV
  clear hst hV
  by_cases hg0 : g1 = 0
  case neg =>
    have hgb : (g1 == 0) = false := by simpa using hg0
    clear HRt HAb HCa HEq hg0
    go_upto_region 10 with fail
    clear hgb hodd hodd2
    obtain ⟨a0, a1, a2, _⟩ := HVx.out.cells
    go_wp2_with fail
    refine (HDn.out _ _ HX0.out HT0.out).mono ?_
    rintro e we ⟨hB1, sne, pne, kne, cne, qne, lne, dne, rfl, hF⟩
    clear a0 a1 a2
    go_upto_region 11 with fail
    have hal := (Below.refl we.heap.size we).alloc (Nat.le_refl _) (.cells #[.bool sne, .slice pne kne cne, .slice qne lne dne] 24)
    have hV := Var3.alloc we (x := .bool sne) (y := .slice pne kne cne) (z := .slice qne lne dne) 24 trivial trivial trivial
    have hst := held_any hB1 hal
    have HFe := hid (hF.out.below hal)
    clear hB1 hal hF
    generalize we.alloc (.cells #[.bool sne, .slice pne kne cne, .slice qne lne dne] 24) = Ve at *
    generalize we.heap.size = Be at *
    replace HX0 := hid (HX0.out.below hst)
    replace HT0 := hid (HT0.out.below hst)
    replace HVx := hid (HVx.out.below hst)
    replace HB := hid (HB.out.trans (hst.mono HB.out.size))
    replace HFy := hid (HFy.out.below hst)
    replace HVy := hid (HVy.out.below hst)
    have HVe := hid hV
    clear hst hV
    obtain ⟨a0, a1, a2, _⟩ := HVx.out.cells
    go_wp2_with fail
    refine (HUp.out _ _ HX0.out HT0.out).mono ?_
    rintro e wf ⟨hB1, snf, pnf, knf, cnf, qnf, lnf, dnf, rfl, hF⟩
    clear a0 a1 a2
    go_upto_region 12 with fail
    have hal := (Below.refl wf.heap.size wf).alloc (Nat.le_refl _) (.cells #[.bool snf, .slice pnf knf cnf, .slice qnf lnf dnf] 24)
    have hV := Var3.alloc wf (x := .bool snf) (y := .slice pnf knf cnf) (z := .slice qnf lnf dnf) 24 trivial trivial trivial
    have hst := held_any hB1 hal
    have HFf := hid (hF.out.below hal)
    clear hB1 hal hF
    generalize wf.alloc (.cells #[.bool snf, .slice pnf knf cnf, .slice qnf lnf dnf] 24) = Vf at *
    generalize wf.heap.size = Bf at *
    replace HX0 := hid (HX0.out.below hst)
    replace HT0 := hid (HT0.out.below hst)
    replace HVx := hid (HVx.out.below hst)
    replace HB := hid (HB.out.trans (hst.mono HB.out.size))
    replace HFy := hid (HFy.out.below hst)
    replace HVy := hid (HVy.out.below hst)
    replace HFe := hid (HFe.out.below hst)
    replace HVe := hid (HVe.out.below hst)
    have HVf := hid hV
    clear hst hV
    by_cases h5 : g5 = 0
    case neg =>
      have hgb : (g5 == 0) = false := by simpa using h5
      clear HLo HHi
      have HAw := hid (awake_any _ HT0.out)
      go_wp2_with fail
      refine HAw.out.mono ?_
      rintro e wz ⟨rfl, hst⟩
      have HZZ := hid (HB.out.trans (hst.mono HB.out.size))
      clear hst
      go_wp2_with fail
      go_ret
      exact ⟨rfl, HZZ.out⟩
    subst h5
    by_cases h6 : g6 = 0
    case neg =>
      have hgb : (g6 == 0) = false := by simpa using h6
      clear HLo HHi
      have HAw := hid (awake_any _ HT0.out)
      go_wp2_with fail
      refine HAw.out.mono ?_
      rintro e wz ⟨rfl, hst⟩
      have HZZ := hid (HB.out.trans (hst.mono HB.out.size))
      clear hst
      go_wp2_with fail
      go_ret
      exact ⟨rfl, HZZ.out⟩
    subst h6
    obtain ⟨a0, a1, a2, _⟩ := HVe.out.cells
    go_wp2_with fail
    refine (HP5.out _ _ HFe.out HT0.out).mono ?_
    rintro e wc ⟨hB1, snc, pnc, knc, cnc, qnc, lnc, dnc, rfl, hF⟩
    clear a0 a1 a2
    go_upto_region 15 with fail
    have hal := (Below.refl wc.heap.size wc).alloc (Nat.le_refl _) (.cells #[.bool snc, .slice pnc knc cnc, .slice qnc lnc dnc] 24)
    have hV := Var3.alloc wc (x := .bool snc) (y := .slice pnc knc cnc) (z := .slice qnc lnc dnc) 24 trivial trivial trivial
    have hst := held_any hB1 hal
    have HFc := hid (hF.out.below hal)
    clear hB1 hal hF
    generalize wc.alloc (.cells #[.bool snc, .slice pnc knc cnc, .slice qnc lnc dnc] 24) = Vc at *
    generalize wc.heap.size = Bc at *
    replace HX0 := hid (HX0.out.below hst)
    replace HT0 := hid (HT0.out.below hst)
    replace HVx := hid (HVx.out.below hst)
    replace HB := hid (HB.out.trans (hst.mono HB.out.size))
    replace HFy := hid (HFy.out.below hst)
    replace HVy := hid (HVy.out.below hst)
    replace HFe := hid (HFe.out.below hst)
    replace HVe := hid (HVe.out.below hst)
    replace HFf := hid (HFf.out.below hst)
    replace HVf := hid (HVf.out.below hst)
    have HVc := hid hV
    clear hst hV
    obtain ⟨a0, a1, a2, _⟩ := HVf.out.cells
    go_wp2_with fail
    refine (HP6.out _ _ HFf.out HT0.out).mono ?_
    rintro e wd ⟨hB1, snd, pnd, knd, cnd, qnd, lnd, dnd, rfl, hF⟩
    clear a0 a1 a2
    go_upto_region 16 with fail
    have hal := (Below.refl wd.heap.size wd).alloc (Nat.le_refl _) (.cells #[.bool snd, .slice pnd knd cnd, .slice qnd lnd dnd] 24)
    have hV := Var3.alloc wd (x := .bool snd) (y := .slice pnd knd cnd) (z := .slice qnd lnd dnd) 24 trivial trivial trivial
    have hst := held_any hB1 hal
    have HFd := hid (hF.out.below hal)
    clear hB1 hal hF
    generalize wd.alloc (.cells #[.bool snd, .slice pnd knd cnd, .slice qnd lnd dnd] 24) = Vd at *
    generalize wd.heap.size = Bd at *
    replace HX0 := hid (HX0.out.below hst)
    replace HT0 := hid (HT0.out.below hst)
    replace HVx := hid (HVx.out.below hst)
    replace HB := hid (HB.out.trans (hst.mono HB.out.size))
    replace HFy := hid (HFy.out.below hst)
    replace HVy := hid (HVy.out.below hst)
    replace HFe := hid (HFe.out.below hst)
    replace HVe := hid (HVe.out.below hst)
    replace HFf := hid (HFf.out.below hst)
    replace HVf := hid (HVf.out.below hst)
    replace HFc := hid (HFc.out.below hst)
    replace HVc := hid (HVc.out.below hst)
    have HVd := hid hV
    clear hst hV
    obtain ⟨a0, a1, a2, _⟩ := HVc.out.cells
    obtain ⟨b0, b1, b2, _⟩ := HVx.out.cells
    go_wp2_with fail
    refine (HC7.out _ _ _ HFc.out HX0.out HT0.out).mono ?_
    rintro e wg ⟨rfl, hst⟩
    clear a0 a1 a2 b0 b1 b2
    replace HX0 := hid (HX0.out.below hst)
    replace HT0 := hid (HT0.out.below hst)
    replace HVx := hid (HVx.out.below hst)
    replace HB := hid (HB.out.trans (hst.mono HB.out.size))
    replace HFy := hid (HFy.out.below hst)
    replace HVy := hid (HVy.out.below hst)
    replace HFe := hid (HFe.out.below hst)
    replace HVe := hid (HVe.out.below hst)
    replace HFf := hid (HFf.out.below hst)
    replace HVf := hid (HVf.out.below hst)
    replace HFc := hid (HFc.out.below hst)
    replace HVc := hid (HVc.out.below hst)
    replace HFd := hid (HFd.out.below hst)
    replace HVd := hid (HVd.out.below hst)
    clear hst
    obtain ⟨a0, a1, a2, _⟩ := HVd.out.cells
    obtain ⟨b0, b1, b2, _⟩ := HVx.out.cells
    obtain ⟨l1, hl1⟩ : ∃ l, l = cmt r7 x := ⟨_, rfl⟩
    obtain ⟨m1, hm1⟩ : ∃ l, l = cmc r7 x := ⟨_, rfl⟩
    obtain ⟨l2, hl2⟩ : ∃ l, l = cmt x r8 := ⟨_, rfl⟩
    obtain ⟨m2, hm2⟩ : ∃ l, l = cmc x r8 := ⟨_, rfl⟩
    rw [← hl1, ← hm1] at HLo ⊢
    rw [← hl2, ← hm2] at HHi HC8
    clear hl1 hm1 hl2 hm2
    go_wp2_with fail
    refine (HC8.out _ _ _ HX0.out HFd.out HT0.out).mono ?_
    rintro e wh ⟨rfl, hst⟩
    clear a0 a1 a2 b0 b1 b2
    replace HX0 := hid (HX0.out.below hst)
    replace HT0 := hid (HT0.out.below hst)
    replace HVx := hid (HVx.out.below hst)
    replace HB := hid (HB.out.trans (hst.mono HB.out.size))
    replace HFy := hid (HFy.out.below hst)
    replace HVy := hid (HVy.out.below hst)
    replace HFe := hid (HFe.out.below hst)
    replace HVe := hid (HVe.out.below hst)
    replace HFf := hid (HFf.out.below hst)
    replace HVf := hid (HVf.out.below hst)
    replace HFc := hid (HFc.out.below hst)
    replace HVc := hid (HVc.out.below hst)
    replace HFd := hid (HFd.out.below hst)
    replace HVd := hid (HVd.out.below hst)
    clear hst
    have HAw := hid (awake_any _ HT0.out)
    by_cases h7 : g7 = 0 <;> by_cases h8 : g8 = 0
    · subst h7
      subst h8
      obtain ⟨rfl, q1⟩ := HLo.out (by trivial) (by trivial)
      have d1 : decide (l1 ≤ 0) = true := decide_eq_true q1
      have f1 : (0 < l1) = False := eq_false (by omega)
      have j1 : (l1 ≤ 0) = True := eq_true q1
      clear q1
      obtain ⟨rfl, q2⟩ := HHi.out (by trivial) (by trivial)
      have d2 : decide (l2 ≤ 0) = true := decide_eq_true q2
      have f2 : (0 < l2) = False := eq_false (by omega)
      have j2 : (l2 ≤ 0) = True := eq_true q2
      clear q2
      clear HLo HHi
      go_wp2_with fail
      refine HAw.out.mono ?_
      rintro e wz ⟨rfl, hst⟩
      have HZZ := hid (HB.out.trans (hst.mono HB.out.size))
      clear hst
      go_wp2_with fail
      go_ret
      exact ⟨rfl, HZZ.out⟩
    · subst h7
      have hgb8 : (g8 == 0) = false := by simpa using h8
      have hn8 : (g8 = 0) = False := eq_false h8
      obtain ⟨rfl, q1⟩ := HLo.out (by trivial) (by trivial)
      have d1 : decide (l1 ≤ 0) = true := decide_eq_true q1
      have f1 : (0 < l1) = False := eq_false (by omega)
      have j1 : (l1 ≤ 0) = True := eq_true q1
      clear q1
      clear h8
      clear HLo HHi
      go_wp2_with fail
      refine HAw.out.mono ?_
      rintro e wz ⟨rfl, hst⟩
      have HZZ := hid (HB.out.trans (hst.mono HB.out.size))
      clear hst
      go_wp2_with fail
      go_ret
      exact ⟨rfl, HZZ.out⟩
    · have hgb7 : (g7 == 0) = false := by simpa using h7
      have hn7 : (g7 = 0) = False := eq_false h7
      subst h8
      clear h7
      obtain ⟨rfl, q2⟩ := HHi.out (by trivial) (by trivial)
      have d2 : decide (l2 ≤ 0) = true := decide_eq_true q2
      have f2 : (0 < l2) = False := eq_false (by omega)
      have j2 : (l2 ≤ 0) = True := eq_true q2
      clear q2
      clear HLo HHi
      go_wp2_with fail
      refine HAw.out.mono ?_
      rintro e wz ⟨rfl, hst⟩
      have HZZ := hid (HB.out.trans (hst.mono HB.out.size))
      clear hst
      go_wp2_with fail
      go_ret
      exact ⟨rfl, HZZ.out⟩
    · have hgb7 : (g7 == 0) = false := by simpa using h7
      have hn7 : (g7 = 0) = False := eq_false h7
      have hgb8 : (g8 == 0) = false := by simpa using h8
      have hn8 : (g8 = 0) = False := eq_false h8
      clear h7
      clear h8
      clear HLo HHi
      go_wp2_with fail
      refine HAw.out.mono ?_
      rintro e wz ⟨rfl, hst⟩
      have HZZ := hid (HB.out.trans (hst.mono HB.out.size))
      clear hst
      go_wp2_with fail
      go_ret
      exact ⟨rfl, HZZ.out⟩
  subst hg0
  replace HRt := hid (HRt.out rfl)
  replace HAb := hid (HAb.out rfl)
  replace HCa := hid (HCa.out rfl)
  replace HEq := hid (HEq.out rfl)
  obtain ⟨a0, a1, a2, _⟩ := HVy.out.cells
  go_wp2_with fail
  refine (HRt.out _ _ HFy.out HT0.out).mono ?_
  rintro e wr ⟨hB1, snr, pnr, knr, cnr, qnr, lnr, dnr, rfl, hF⟩
  clear a0 a1 a2
  go_upto_region 5 with fail
  have hal := (Below.refl wr.heap.size wr).alloc (Nat.le_refl _) (.cells #[.bool snr, .slice pnr knr cnr, .slice qnr lnr dnr] 24)
  have hV := Var3.alloc wr (x := .bool snr) (y := .slice pnr knr cnr) (z := .slice qnr lnr dnr) 24 trivial trivial trivial
  have hst := held_any hB1 hal
  have HFr := hid (hF.out.below hal)
  clear hB1 hal hF
  generalize wr.alloc (.cells #[.bool snr, .slice pnr knr cnr, .slice qnr lnr dnr] 24) = Vr at *
  generalize wr.heap.size = Br at *
  replace HX0 := hid (HX0.out.below hst)
  replace HT0 := hid (HT0.out.below hst)
  replace HVx := hid (HVx.out.below hst)
  replace HB := hid (HB.out.trans (hst.mono HB.out.size))
  replace HFy := hid (HFy.out.below hst)
  replace HVy := hid (HVy.out.below hst)
  have HVr := hid hV
  clear hst hV
  obtain ⟨a0, a1, a2, _⟩ := HVx.out.cells
  go_wp2_with fail
  refine (HAb.out _ _ HX0.out HT0.out).mono ?_
  rintro e wa ⟨hB1, sna, pna, kna, cna, qna, lna, dna, rfl, hF⟩
  clear a0 a1 a2
  go_upto_region 6 with fail
  have hal := (Below.refl wa.heap.size wa).alloc (Nat.le_refl _) (.cells #[.bool sna, .slice pna kna cna, .slice qna lna dna] 24)
  have hV := Var3.alloc wa (x := .bool sna) (y := .slice pna kna cna) (z := .slice qna lna dna) 24 trivial trivial trivial
  have hst := held_any hB1 hal
  have hB9 := hB1.size
  have HFa := hid (hF.out.below hal)
  clear hB1 hal hF
  have HLT : Hid (w.heap.size < wa.heap.size ∧ Br < wa.heap.size) := hid ⟨Nat.lt_of_lt_of_le HVx.out.lt hB9, Nat.lt_of_lt_of_le HVr.out.lt hB9⟩
  clear hB9
  generalize wa.alloc (.cells #[.bool sna, .slice pna kna cna, .slice qna lna dna] 24) = Va at *
  generalize wa.heap.size = Ba at *
  replace HX0 := hid (HX0.out.below hst)
  replace HT0 := hid (HT0.out.below hst)
  replace HVx := hid (HVx.out.below hst)
  replace HB := hid (HB.out.trans (hst.mono HB.out.size))
  replace HFy := hid (HFy.out.below hst)
  replace HVy := hid (HVy.out.below hst)
  replace HFr := hid (HFr.out.below hst)
  replace HVr := hid (HVr.out.below hst)
  have HVa := hid hV
  clear hst hV
  by_cases hk2 : k % 2 = 1
  · rw [decide_eq_true hk2] at hodd hodd2
    have hr24 := HR3.out hk2
    clear hk2 HR3 HR4
    obtain ⟨a0, a1, a2, _⟩ := HVx.out.cells
    obtain ⟨b0, b1, b2, z0, z1, z2⟩ := HVa.out.cells
    go_wp2_with fail
    refine (HCa.out _ _ HX0.out HT0.out).mono ?_
    rintro e wo ⟨hst, so, po, ko, co, qo, lo, do', rfl, hF⟩
    clear a0 a1 a2 b0 b1 b2 z0 z1 z2
    replace HX0 := hid (HX0.out.below hst)
    replace HT0 := hid (HT0.out.below hst)
    replace HVx := hid (HVx.out.below hst)
    replace HB := hid (HB.out.trans (hst.mono HB.out.size))
    replace HFy := hid (HFy.out.below hst)
    replace HVy := hid (HVy.out.below hst)
    replace HFr := hid (HFr.out.below hst)
    replace HVr := hid (HVr.out.below hst)
    replace HFa := hid (HFa.out.below hst)
    replace HVa := hid (HVa.out.below hst)
    clear hst
    have HFo := hid hF.out
    clear hF
    obtain ⟨b0, b1, b2, z0, z1, z2⟩ := HVa.out.cells
    go_upto_region 8 with fail
    have hVn : Var3 (((wo.setCell ⟨Ba, 0, none⟩ (.bool so)).setCell ⟨Ba, 1, none⟩ (.slice po ko co)).setCell ⟨Ba, 2, none⟩ (.slice qo lo do')) Ba (.bool so) (.slice po ko co) (.slice qo lo do') := HVa.out.store trivial trivial trivial
    have hVxn := HVx.out.other (show w.heap.size ≠ Ba by have := HLT.out.1; omega) (.bool so) (.slice po ko co) (.slice qo lo do')
    have hVrn := HVr.out.other (show Br ≠ Ba by have := HLT.out.2; omega) (.bool so) (.slice po ko co) (.slice qo lo do')
    have hXn := HX0.out.store3 HVa.out (.bool so) (.slice po ko co) (.slice qo lo do')
    have hRn := HFr.out.store3 HVa.out (.bool so) (.slice po ko co) (.slice qo lo do')
    have hOn := HFo.out.store3 HVa.out (.bool so) (.slice po ko co) (.slice qo lo do')
    have hBn : Below w.heap.size w (((wo.setCell ⟨Ba, 0, none⟩ (.bool so)).setCell ⟨Ba, 1, none⟩ (.slice po ko co)).setCell ⟨Ba, 2, none⟩ (.slice qo lo do')) := below_set3 HB.out (Nat.le_of_lt HLT.out.1)
    clear HVa HVx HVr HX0 HFr HFo HB HT0 HFy HVy HFa b0 b1 b2 z0 z1 z2
    generalize (((wo.setCell ⟨Ba, 0, none⟩ (.bool so)).setCell ⟨Ba, 1, none⟩ (.slice po ko co)).setCell ⟨Ba, 2, none⟩ (.slice qo lo do')) = V5 at *
    have HVx := hid hVxn
    have HX0 := hid hXn
    have HB := hid hBn
    have HT0 := hid (HTw.out.below hBn)
    have HVr := hid hVrn
    have HVa := hid hVn
    have HFr := hid hRn
    rw [← hr24] at hOn
    have HFa := hid hOn
    clear hVxn hXn hBn hVrn hVn hRn hOn hr24
    obtain ⟨a0, a1, a2, _⟩ := HVr.out.cells
    obtain ⟨b0, b1, b2, _⟩ := HVa.out.cells
    go_wp2_with fail
    refine (HEq.out _ _ _ HFr.out HFa.out).mono ?_
    rintro e weq ⟨rfl, hst⟩
    clear a0 a1 a2 b0 b1 b2 HVr HVa HFr HFa HRt HAb HCa HEq
    replace HX0 := hid (HX0.out.below hst)
    replace HT0 := hid (HT0.out.below hst)
    replace HVx := hid (HVx.out.below hst)
    replace HB := hid (HB.out.trans (hst.mono HB.out.size))
    clear hst
    go_upto_region 10 with fail
    clear hodd hodd2
    obtain ⟨a0, a1, a2, _⟩ := HVx.out.cells
    go_wp2_with fail
    refine (HDn.out _ _ HX0.out HT0.out).mono ?_
    rintro e we ⟨hB1, sne, pne, kne, cne, qne, lne, dne, rfl, hF⟩
    clear a0 a1 a2
    go_upto_region 11 with fail
    have hal := (Below.refl we.heap.size we).alloc (Nat.le_refl _) (.cells #[.bool sne, .slice pne kne cne, .slice qne lne dne] 24)
    have hV := Var3.alloc we (x := .bool sne) (y := .slice pne kne cne) (z := .slice qne lne dne) 24 trivial trivial trivial
    have hst := held_any hB1 hal
    have HFe := hid (hF.out.below hal)
    clear hB1 hal hF
    generalize we.alloc (.cells #[.bool sne, .slice pne kne cne, .slice qne lne dne] 24) = Ve at *
    generalize we.heap.size = Be at *
    replace HX0 := hid (HX0.out.below hst)
    replace HT0 := hid (HT0.out.below hst)
    replace HVx := hid (HVx.out.below hst)
    replace HB := hid (HB.out.trans (hst.mono HB.out.size))
    have HVe := hid hV
    clear hst hV
    obtain ⟨a0, a1, a2, _⟩ := HVx.out.cells
    go_wp2_with fail
    refine (HUp.out _ _ HX0.out HT0.out).mono ?_
    rintro e wf ⟨hB1, snf, pnf, knf, cnf, qnf, lnf, dnf, rfl, hF⟩
    clear a0 a1 a2
    go_upto_region 12 with fail
    have hal := (Below.refl wf.heap.size wf).alloc (Nat.le_refl _) (.cells #[.bool snf, .slice pnf knf cnf, .slice qnf lnf dnf] 24)
    have hV := Var3.alloc wf (x := .bool snf) (y := .slice pnf knf cnf) (z := .slice qnf lnf dnf) 24 trivial trivial trivial
    have hst := held_any hB1 hal
    have HFf := hid (hF.out.below hal)
    clear hB1 hal hF
    generalize wf.alloc (.cells #[.bool snf, .slice pnf knf cnf, .slice qnf lnf dnf] 24) = Vf at *
    generalize wf.heap.size = Bf at *
    replace HX0 := hid (HX0.out.below hst)
    replace HT0 := hid (HT0.out.below hst)
    replace HVx := hid (HVx.out.below hst)
    replace HB := hid (HB.out.trans (hst.mono HB.out.size))
    replace HFe := hid (HFe.out.below hst)
    replace HVe := hid (HVe.out.below hst)
    have HVf := hid hV
    clear hst hV
    by_cases h5 : g5 = 0
    case neg =>
      have hgb : (g5 == 0) = false := by simpa using h5
      clear HLo HHi
      have HAw := hid (awake_any _ HT0.out)
      go_wp2_with fail
      refine HAw.out.mono ?_
      rintro e wz ⟨rfl, hst⟩
      have HZZ := hid (HB.out.trans (hst.mono HB.out.size))
      clear hst
      go_wp2_with fail
      go_ret
      exact ⟨rfl, HZZ.out⟩
    subst h5
    by_cases h6 : g6 = 0
    case neg =>
      have hgb : (g6 == 0) = false := by simpa using h6
      clear HLo HHi
      have HAw := hid (awake_any _ HT0.out)
      go_wp2_with fail
      refine HAw.out.mono ?_
      rintro e wz ⟨rfl, hst⟩
      have HZZ := hid (HB.out.trans (hst.mono HB.out.size))
      clear hst
      go_wp2_with fail
      go_ret
      exact ⟨rfl, HZZ.out⟩
    subst h6
    obtain ⟨a0, a1, a2, _⟩ := HVe.out.cells
    go_wp2_with fail
    refine (HP5.out _ _ HFe.out HT0.out).mono ?_
    rintro e wc ⟨hB1, snc, pnc, knc, cnc, qnc, lnc, dnc, rfl, hF⟩
    clear a0 a1 a2
    go_upto_region 15 with fail
    have hal := (Below.refl wc.heap.size wc).alloc (Nat.le_refl _) (.cells #[.bool snc, .slice pnc knc cnc, .slice qnc lnc dnc] 24)
    have hV := Var3.alloc wc (x := .bool snc) (y := .slice pnc knc cnc) (z := .slice qnc lnc dnc) 24 trivial trivial trivial
    have hst := held_any hB1 hal
    have HFc := hid (hF.out.below hal)
    clear hB1 hal hF
    generalize wc.alloc (.cells #[.bool snc, .slice pnc knc cnc, .slice qnc lnc dnc] 24) = Vc at *
    generalize wc.heap.size = Bc at *
    replace HX0 := hid (HX0.out.below hst)
    replace HT0 := hid (HT0.out.below hst)
    replace HVx := hid (HVx.out.below hst)
    replace HB := hid (HB.out.trans (hst.mono HB.out.size))
    replace HFe := hid (HFe.out.below hst)
    replace HVe := hid (HVe.out.below hst)
    replace HFf := hid (HFf.out.below hst)
    replace HVf := hid (HVf.out.below hst)
    have HVc := hid hV
    clear hst hV
    obtain ⟨a0, a1, a2, _⟩ := HVf.out.cells
    go_wp2_with fail
    refine (HP6.out _ _ HFf.out HT0.out).mono ?_
    rintro e wd ⟨hB1, snd, pnd, knd, cnd, qnd, lnd, dnd, rfl, hF⟩
    clear a0 a1 a2
    go_upto_region 16 with fail
    have hal := (Below.refl wd.heap.size wd).alloc (Nat.le_refl _) (.cells #[.bool snd, .slice pnd knd cnd, .slice qnd lnd dnd] 24)
    have hV := Var3.alloc wd (x := .bool snd) (y := .slice pnd knd cnd) (z := .slice qnd lnd dnd) 24 trivial trivial trivial
    have hst := held_any hB1 hal
    have HFd := hid (hF.out.below hal)
    clear hB1 hal hF
    generalize wd.alloc (.cells #[.bool snd, .slice pnd knd cnd, .slice qnd lnd dnd] 24) = Vd at *
    generalize wd.heap.size = Bd at *
    replace HX0 := hid (HX0.out.below hst)
    replace HT0 := hid (HT0.out.below hst)
    replace HVx := hid (HVx.out.below hst)
    replace HB := hid (HB.out.trans (hst.mono HB.out.size))
    replace HFe := hid (HFe.out.below hst)
    replace HVe := hid (HVe.out.below hst)
    replace HFf := hid (HFf.out.below hst)
    replace HVf := hid (HVf.out.below hst)
    replace HFc := hid (HFc.out.below hst)
    replace HVc := hid (HVc.out.below hst)
    have HVd := hid hV
    clear hst hV
    obtain ⟨a0, a1, a2, _⟩ := HVc.out.cells
    obtain ⟨b0, b1, b2, _⟩ := HVx.out.cells
    go_wp2_with fail
    refine (HC7.out _ _ _ HFc.out HX0.out HT0.out).mono ?_
    rintro e wg ⟨rfl, hst⟩
    clear a0 a1 a2 b0 b1 b2
    replace HX0 := hid (HX0.out.below hst)
    replace HT0 := hid (HT0.out.below hst)
    replace HVx := hid (HVx.out.below hst)
    replace HB := hid (HB.out.trans (hst.mono HB.out.size))
    replace HFe := hid (HFe.out.below hst)
    replace HVe := hid (HVe.out.below hst)
    replace HFf := hid (HFf.out.below hst)
    replace HVf := hid (HVf.out.below hst)
    replace HFc := hid (HFc.out.below hst)
    replace HVc := hid (HVc.out.below hst)
    replace HFd := hid (HFd.out.below hst)
    replace HVd := hid (HVd.out.below hst)
    clear hst
    obtain ⟨a0, a1, a2, _⟩ := HVd.out.cells
    obtain ⟨b0, b1, b2, _⟩ := HVx.out.cells
    obtain ⟨l1, hl1⟩ : ∃ l, l = cmt r7 x := ⟨_, rfl⟩
    obtain ⟨m1, hm1⟩ : ∃ l, l = cmc r7 x := ⟨_, rfl⟩
    obtain ⟨l2, hl2⟩ : ∃ l, l = cmt x r8 := ⟨_, rfl⟩
    obtain ⟨m2, hm2⟩ : ∃ l, l = cmc x r8 := ⟨_, rfl⟩
    rw [← hl1, ← hm1] at HLo ⊢
    rw [← hl2, ← hm2] at HHi HC8
    clear hl1 hm1 hl2 hm2
    go_wp2_with fail
    refine (HC8.out _ _ _ HX0.out HFd.out HT0.out).mono ?_
    rintro e wh ⟨rfl, hst⟩
    clear a0 a1 a2 b0 b1 b2
    replace HX0 := hid (HX0.out.below hst)
    replace HT0 := hid (HT0.out.below hst)
    replace HVx := hid (HVx.out.below hst)
    replace HB := hid (HB.out.trans (hst.mono HB.out.size))
    replace HFe := hid (HFe.out.below hst)
    replace HVe := hid (HVe.out.below hst)
    replace HFf := hid (HFf.out.below hst)
    replace HVf := hid (HVf.out.below hst)
    replace HFc := hid (HFc.out.below hst)
    replace HVc := hid (HVc.out.below hst)
    replace HFd := hid (HFd.out.below hst)
    replace HVd := hid (HVd.out.below hst)
    clear hst
    have HAw := hid (awake_any _ HT0.out)
    by_cases h7 : g7 = 0 <;> by_cases h8 : g8 = 0
    · subst h7
      subst h8
      obtain ⟨rfl, q1⟩ := HLo.out (by trivial) (by trivial)
      have d1 : decide (l1 ≤ 0) = true := decide_eq_true q1
      have f1 : (0 < l1) = False := eq_false (by omega)
      have j1 : (l1 ≤ 0) = True := eq_true q1
      clear q1
      obtain ⟨rfl, q2⟩ := HHi.out (by trivial) (by trivial)
      have d2 : decide (l2 ≤ 0) = true := decide_eq_true q2
      have f2 : (0 < l2) = False := eq_false (by omega)
      have j2 : (l2 ≤ 0) = True := eq_true q2
      clear q2
      clear HLo HHi
      go_wp2_with fail
      refine HAw.out.mono ?_
      rintro e wz ⟨rfl, hst⟩
      have HZZ := hid (HB.out.trans (hst.mono HB.out.size))
      clear hst
      go_wp2_with fail
      go_ret
      exact ⟨rfl, HZZ.out⟩
    · subst h7
      have hgb8 : (g8 == 0) = false := by simpa using h8
      have hn8 : (g8 = 0) = False := eq_false h8
      obtain ⟨rfl, q1⟩ := HLo.out (by trivial) (by trivial)
      have d1 : decide (l1 ≤ 0) = true := decide_eq_true q1
      have f1 : (0 < l1) = False := eq_false (by omega)
      have j1 : (l1 ≤ 0) = True := eq_true q1
      clear q1
      clear h8
      clear HLo HHi
      go_wp2_with fail
      refine HAw.out.mono ?_
      rintro e wz ⟨rfl, hst⟩
      have HZZ := hid (HB.out.trans (hst.mono HB.out.size))
      clear hst
      go_wp2_with fail
      go_ret
      exact ⟨rfl, HZZ.out⟩
    · have hgb7 : (g7 == 0) = false := by simpa using h7
      have hn7 : (g7 = 0) = False := eq_false h7
      subst h8
      clear h7
      obtain ⟨rfl, q2⟩ := HHi.out (by trivial) (by trivial)
      have d2 : decide (l2 ≤ 0) = true := decide_eq_true q2
      have f2 : (0 < l2) = False := eq_false (by omega)
      have j2 : (l2 ≤ 0) = True := eq_true q2
      clear q2
      clear HLo HHi
      go_wp2_with fail
      refine HAw.out.mono ?_
      rintro e wz ⟨rfl, hst⟩
      have HZZ := hid (HB.out.trans (hst.mono HB.out.size))
      clear hst
      go_wp2_with fail
      go_ret
      exact ⟨rfl, HZZ.out⟩
    · have hgb7 : (g7 == 0) = false := by simpa using h7
      have hn7 : (g7 = 0) = False := eq_false h7
      have hgb8 : (g8 == 0) = false := by simpa using h8
      have hn8 : (g8 = 0) = False := eq_false h8
      clear h7
      clear h8
      clear HLo HHi
      go_wp2_with fail
      refine HAw.out.mono ?_
      rintro e wz ⟨rfl, hst⟩
      have HZZ := hid (HB.out.trans (hst.mono HB.out.size))
      clear hst
      go_wp2_with fail
      go_ret
      exact ⟨rfl, HZZ.out⟩
  · rw [decide_eq_false hk2] at hodd hodd2
    have hr23 := HR4.out hk2
    clear hk2 HR3 HR4 HFy HVy
    rw [← hr23] at HFa
    clear hr23
    obtain ⟨a0, a1, a2, _⟩ := HVr.out.cells
    obtain ⟨b0, b1, b2, _⟩ := HVa.out.cells
    go_wp2_with fail
    refine (HEq.out _ _ _ HFr.out HFa.out).mono ?_
    rintro e weq ⟨rfl, hst⟩
    clear a0 a1 a2 b0 b1 b2 HVr HVa HFr HFa HRt HAb HCa HEq
    replace HX0 := hid (HX0.out.below hst)
    replace HT0 := hid (HT0.out.below hst)
    replace HVx := hid (HVx.out.below hst)
    replace HB := hid (HB.out.trans (hst.mono HB.out.size))
    clear hst
    go_upto_region 10 with fail
    clear hodd hodd2
    obtain ⟨a0, a1, a2, _⟩ := HVx.out.cells
    go_wp2_with fail
    refine (HDn.out _ _ HX0.out HT0.out).mono ?_
    rintro e we ⟨hB1, sne, pne, kne, cne, qne, lne, dne, rfl, hF⟩
    clear a0 a1 a2
    go_upto_region 11 with fail
    have hal := (Below.refl we.heap.size we).alloc (Nat.le_refl _) (.cells #[.bool sne, .slice pne kne cne, .slice qne lne dne] 24)
    have hV := Var3.alloc we (x := .bool sne) (y := .slice pne kne cne) (z := .slice qne lne dne) 24 trivial trivial trivial
    have hst := held_any hB1 hal
    have HFe := hid (hF.out.below hal)
    clear hB1 hal hF
    generalize we.alloc (.cells #[.bool sne, .slice pne kne cne, .slice qne lne dne] 24) = Ve at *
    generalize we.heap.size = Be at *
    replace HX0 := hid (HX0.out.below hst)
    replace HT0 := hid (HT0.out.below hst)
    replace HVx := hid (HVx.out.below hst)
    replace HB := hid (HB.out.trans (hst.mono HB.out.size))
    have HVe := hid hV
    clear hst hV
    obtain ⟨a0, a1, a2, _⟩ := HVx.out.cells
    go_wp2_with fail
    refine (HUp.out _ _ HX0.out HT0.out).mono ?_
    rintro e wf ⟨hB1, snf, pnf, knf, cnf, qnf, lnf, dnf, rfl, hF⟩
    clear a0 a1 a2
    go_upto_region 12 with fail
    have hal := (Below.refl wf.heap.size wf).alloc (Nat.le_refl _) (.cells #[.bool snf, .slice pnf knf cnf, .slice qnf lnf dnf] 24)
    have hV := Var3.alloc wf (x := .bool snf) (y := .slice pnf knf cnf) (z := .slice qnf lnf dnf) 24 trivial trivial trivial
    have hst := held_any hB1 hal
    have HFf := hid (hF.out.below hal)
    clear hB1 hal hF
    generalize wf.alloc (.cells #[.bool snf, .slice pnf knf cnf, .slice qnf lnf dnf] 24) = Vf at *
    generalize wf.heap.size = Bf at *
    replace HX0 := hid (HX0.out.below hst)
    replace HT0 := hid (HT0.out.below hst)
    replace HVx := hid (HVx.out.below hst)
    replace HB := hid (HB.out.trans (hst.mono HB.out.size))
    replace HFe := hid (HFe.out.below hst)
    replace HVe := hid (HVe.out.below hst)
    have HVf := hid hV
    clear hst hV
    by_cases h5 : g5 = 0
    case neg =>
      have hgb : (g5 == 0) = false := by simpa using h5
      clear HLo HHi
      have HAw := hid (awake_any _ HT0.out)
      go_wp2_with fail
      refine HAw.out.mono ?_
      rintro e wz ⟨rfl, hst⟩
      have HZZ := hid (HB.out.trans (hst.mono HB.out.size))
      clear hst
      go_wp2_with fail
      go_ret
      exact ⟨rfl, HZZ.out⟩
    subst h5
    by_cases h6 : g6 = 0
    case neg =>
      have hgb : (g6 == 0) = false := by simpa using h6
      clear HLo HHi
      have HAw := hid (awake_any _ HT0.out)
      go_wp2_with fail
      refine HAw.out.mono ?_
      rintro e wz ⟨rfl, hst⟩
      have HZZ := hid (HB.out.trans (hst.mono HB.out.size))
      clear hst
      go_wp2_with fail
      go_ret
      exact ⟨rfl, HZZ.out⟩
    subst h6
    obtain ⟨a0, a1, a2, _⟩ := HVe.out.cells
    go_wp2_with fail
    refine (HP5.out _ _ HFe.out HT0.out).mono ?_
    rintro e wc ⟨hB1, snc, pnc, knc, cnc, qnc, lnc, dnc, rfl, hF⟩
    clear a0 a1 a2
    go_upto_region 15 with fail
    have hal := (Below.refl wc.heap.size wc).alloc (Nat.le_refl _) (.cells #[.bool snc, .slice pnc knc cnc, .slice qnc lnc dnc] 24)
    have hV := Var3.alloc wc (x := .bool snc) (y := .slice pnc knc cnc) (z := .slice qnc lnc dnc) 24 trivial trivial trivial
    have hst := held_any hB1 hal
    have HFc := hid (hF.out.below hal)
    clear hB1 hal hF
    generalize wc.alloc (.cells #[.bool snc, .slice pnc knc cnc, .slice qnc lnc dnc] 24) = Vc at *
    generalize wc.heap.size = Bc at *
    replace HX0 := hid (HX0.out.below hst)
    replace HT0 := hid (HT0.out.below hst)
    replace HVx := hid (HVx.out.below hst)
    replace HB := hid (HB.out.trans (hst.mono HB.out.size))
    replace HFe := hid (HFe.out.below hst)
    replace HVe := hid (HVe.out.below hst)
    replace HFf := hid (HFf.out.below hst)
    replace HVf := hid (HVf.out.below hst)
    have HVc := hid hV
    clear hst hV
    obtain ⟨a0, a1, a2, _⟩ := HVf.out.cells
    go_wp2_with fail
    refine (HP6.out _ _ HFf.out HT0.out).mono ?_
    rintro e wd ⟨hB1, snd, pnd, knd, cnd, qnd, lnd, dnd, rfl, hF⟩
    clear a0 a1 a2
    go_upto_region 16 with fail
    have hal := (Below.refl wd.heap.size wd).alloc (Nat.le_refl _) (.cells #[.bool snd, .slice pnd knd cnd, .slice qnd lnd dnd] 24)
    have hV := Var3.alloc wd (x := .bool snd) (y := .slice pnd knd cnd) (z := .slice qnd lnd dnd) 24 trivial trivial trivial
    have hst := held_any hB1 hal
    have HFd := hid (hF.out.below hal)
    clear hB1 hal hF
    generalize wd.alloc (.cells #[.bool snd, .slice pnd knd cnd, .slice qnd lnd dnd] 24) = Vd at *
    generalize wd.heap.size = Bd at *
    replace HX0 := hid (HX0.out.below hst)
    replace HT0 := hid (HT0.out.below hst)
    replace HVx := hid (HVx.out.below hst)
    replace HB := hid (HB.out.trans (hst.mono HB.out.size))
    replace HFe := hid (HFe.out.below hst)
    replace HVe := hid (HVe.out.below hst)
    replace HFf := hid (HFf.out.below hst)
    replace HVf := hid (HVf.out.below hst)
    replace HFc := hid (HFc.out.below hst)
    replace HVc := hid (HVc.out.below hst)
    have HVd := hid hV
    clear hst hV
    obtain ⟨a0, a1, a2, _⟩ := HVc.out.cells
    obtain ⟨b0, b1, b2, _⟩ := HVx.out.cells
    go_wp2_with fail
    refine (HC7.out _ _ _ HFc.out HX0.out HT0.out).mono ?_
    rintro e wg ⟨rfl, hst⟩
    clear a0 a1 a2 b0 b1 b2
    replace HX0 := hid (HX0.out.below hst)
    replace HT0 := hid (HT0.out.below hst)
    replace HVx := hid (HVx.out.below hst)
    replace HB := hid (HB.out.trans (hst.mono HB.out.size))
    replace HFe := hid (HFe.out.below hst)
    replace HVe := hid (HVe.out.below hst)
    replace HFf := hid (HFf.out.below hst)
    replace HVf := hid (HVf.out.below hst)
    replace HFc := hid (HFc.out.below hst)
    replace HVc := hid (HVc.out.below hst)
    replace HFd := hid (HFd.out.below hst)
    replace HVd := hid (HVd.out.below hst)
    clear hst
    obtain ⟨a0, a1, a2, _⟩ := HVd.out.cells
    obtain ⟨b0, b1, b2, _⟩ := HVx.out.cells
    obtain ⟨l1, hl1⟩ : ∃ l, l = cmt r7 x := ⟨_, rfl⟩
    obtain ⟨m1, hm1⟩ : ∃ l, l = cmc r7 x := ⟨_, rfl⟩
    obtain ⟨l2, hl2⟩ : ∃ l, l = cmt x r8 := ⟨_, rfl⟩
    obtain ⟨m2, hm2⟩ : ∃ l, l = cmc x r8 := ⟨_, rfl⟩
    rw [← hl1, ← hm1] at HLo ⊢
    rw [← hl2, ← hm2] at HHi HC8
    clear hl1 hm1 hl2 hm2
    go_wp2_with fail
    refine (HC8.out _ _ _ HX0.out HFd.out HT0.out).mono ?_
    rintro e wh ⟨rfl, hst⟩
    clear a0 a1 a2 b0 b1 b2
    replace HX0 := hid (HX0.out.below hst)
    replace HT0 := hid (HT0.out.below hst)
    replace HVx := hid (HVx.out.below hst)
    replace HB := hid (HB.out.trans (hst.mono HB.out.size))
    replace HFe := hid (HFe.out.below hst)
    replace HVe := hid (HVe.out.below hst)
    replace HFf := hid (HFf.out.below hst)
    replace HVf := hid (HVf.out.below hst)
    replace HFc := hid (HFc.out.below hst)
    replace HVc := hid (HVc.out.below hst)
    replace HFd := hid (HFd.out.below hst)
    replace HVd := hid (HVd.out.below hst)
    clear hst
    have HAw := hid (awake_any _ HT0.out)
    by_cases h7 : g7 = 0 <;> by_cases h8 : g8 = 0
    · subst h7
      subst h8
      obtain ⟨rfl, q1⟩ := HLo.out (by trivial) (by trivial)
      have d1 : decide (l1 ≤ 0) = true := decide_eq_true q1
      have f1 : (0 < l1) = False := eq_false (by omega)
      have j1 : (l1 ≤ 0) = True := eq_true q1
      clear q1
      obtain ⟨rfl, q2⟩ := HHi.out (by trivial) (by trivial)
      have d2 : decide (l2 ≤ 0) = true := decide_eq_true q2
      have f2 : (0 < l2) = False := eq_false (by omega)
      have j2 : (l2 ≤ 0) = True := eq_true q2
      clear q2
      clear HLo HHi
      go_wp2_with fail
      refine HAw.out.mono ?_
      rintro e wz ⟨rfl, hst⟩
      have HZZ := hid (HB.out.trans (hst.mono HB.out.size))
      clear hst
      go_wp2_with fail
      go_ret
      exact ⟨rfl, HZZ.out⟩
    · subst h7
      have hgb8 : (g8 == 0) = false := by simpa using h8
      have hn8 : (g8 = 0) = False := eq_false h8
      obtain ⟨rfl, q1⟩ := HLo.out (by trivial) (by trivial)
      have d1 : decide (l1 ≤ 0) = true := decide_eq_true q1
      have f1 : (0 < l1) = False := eq_false (by omega)
      have j1 : (l1 ≤ 0) = True := eq_true q1
      clear q1
      clear h8
      clear HLo HHi
      go_wp2_with fail
      refine HAw.out.mono ?_
      rintro e wz ⟨rfl, hst⟩
      have HZZ := hid (HB.out.trans (hst.mono HB.out.size))
      clear hst
      go_wp2_with fail
      go_ret
      exact ⟨rfl, HZZ.out⟩
    · have hgb7 : (g7 == 0) = false := by simpa using h7
      have hn7 : (g7 = 0) = False := eq_false h7
      subst h8
      clear h7
      obtain ⟨rfl, q2⟩ := HHi.out (by trivial) (by trivial)
      have d2 : decide (l2 ≤ 0) = true := decide_eq_true q2
      have f2 : (0 < l2) = False := eq_false (by omega)
      have j2 : (l2 ≤ 0) = True := eq_true q2
      clear q2
      clear HLo HHi
      go_wp2_with fail
      refine HAw.out.mono ?_
      rintro e wz ⟨rfl, hst⟩
      have HZZ := hid (HB.out.trans (hst.mono HB.out.size))
      clear hst
      go_wp2_with fail
      go_ret
      exact ⟨rfl, HZZ.out⟩
    · have hgb7 : (g7 == 0) = false := by simpa using h7
      have hn7 : (g7 = 0) = False := eq_false h7
      have hgb8 : (g8 == 0) = false := by simpa using h8
      have hn8 : (g8 = 0) = False := eq_false h8
      clear h7
      clear h8
      clear HLo HHi
      go_wp2_with fail
      refine HAw.out.mono ?_
      rintro e wz ⟨rfl, hst⟩
      have HZZ := hid (HB.out.trans (hst.mono HB.out.size))
      clear hst
      go_wp2_with fail
      go_ret
      exact ⟨rfl, HZZ.out⟩
theorem NumberPowers_any (vx : Value) (x : Bool × Nat × Nat) (n p : Int) (w : World) (hx : NRep w vx x) (h0 : 0 ≤ n) (h1 : n < 256) (h2 : 0 ≤ p) (h3 : p < 256) (ht : TabOk w) :
    Calls Tryd.prog 6 #[vx, .int .u8 n, .int .u8 p] w fun e w' => e = .returned (.bool true) ∧ Below w.heap.size w w' := by
  obtain ⟨k, rfl⟩ : ∃ k : Nat, n = k := ⟨n.toNat, by omega⟩
  obtain ⟨m, rfl⟩ : ∃ m : Nat, p = m := ⟨p.toNat, by omega⟩
  exact NumberPowers_nat vx x k m w hx (by omega) (by omega) ht
end Go.Proofs.YtnoonhomjnpbjaaDoor
