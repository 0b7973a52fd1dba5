/- Roots of fractions and numbers, in the program. -/
import Derived.Test.YtnoonhomjnpbjaaDoorPowP
import Derived.Test.YtnoonhomjnpbjaaDoorRootN
namespace Go.Proofs.YtnoonhomjnpbjaaDoor
open Go.RowKit Dg Rt

/-- The root of a fraction comes back, and whether there is one. -/
def RootRes (w : World) (e : Ending) (t : Bool × Nat × Nat) (n : Nat) : Prop :=
  ∃ sg pa ka ca pb kb cb, e = .returned (.tuple #[.agg #[.bool sg, .slice pa ka ca, .slice pb kb cb], .bool (rootOk t n)]) ∧ FNorm w (.agg #[.bool sg, .slice pa ka ca, .slice pb kb cb]) (rootr t n)
theorem RootRes.no {w : World} {t : Bool × Nat × Nat} {n : Nat} (h : rootOk t n = false) : RootRes w (.returned (.tuple #[.agg #[.bool false, .slice none 0 0, .slice none 0 0], .bool false])) t n := by
  refine ⟨false, none, 0, 0, none, 0, 0, by rw [h], ?_⟩
  unfold rootr
  rw [h]
  exact ⟨_, _, rfl, Rep.nil, Rep.nil⟩
theorem RootRes.yes {w : World} {t r : Bool × Nat × Nat} {n : Nat} {sg : Bool} {pa pb : Option Addr} {ka ca kb cb : Nat} (h : rootOk t n = true) (hr : rootr t n = r) (hF : FNorm w (.agg #[.bool sg, .slice pa ka ca, .slice pb kb cb]) r) :
    RootRes w (.returned (.tuple #[.agg #[.bool sg, .slice pa ka ca, .slice pb kb cb], .bool true])) t n := ⟨_, _, _, _, _, _, _, by rw [h], by rw [hr]; exact hF⟩
theorem cmp3_zero {a b : Nat} (h : cmp3 a b = 0) : a = b := by
  rcases Nat.lt_trichotomy a b with h1 | h1 | h1
  · rw [cmp3_lt h1] at h; exact absurd h (by decide)
  · exact h1
  · rw [cmp3_gt h1] at h; exact absurd h (by decide)
theorem FracRoot_ret {W : World} {B : Nat} {x y z ev : Value} {tm : Array Value} {R : Ending → World → Prop} (h2 : tm[4]?.getD undef = .pointer (some ⟨B, 0, none⟩)) (h3 : tm[5]?.getD undef = ev) (hV : Var3 W B x y z)
    (hR : R (.returned (.tuple #[.agg #[x, y, z], ev])) W) : bodyPost Tryd.prog Tryd.f31 R .ret { tmps := tm, defers := [] } W := by
  obtain ⟨c0, c1, c2, _, _, _⟩ := hV.cells
  exact bodyPost_ret (v := .tuple #[.agg #[x, y, z], ev]) (by simp [results, Tryd.results31, go_sem, h2, h3, c0, c1, c2]) rfl hR

set_option maxHeartbeats 8000000 in
set_option maxRecDepth 100000 in
theorem FracRoot_any (v : Value) (t : Bool × Nat × Nat) (n : Nat) (w : World) (h : FNorm w v t) (hn : t.2.1 < W32 ^ 64) (hd : t.2.2 < W32 ^ 64) (h2 : 2 ≤ n) (h8 : n ≤ 8) (ht : TabOk w) :
    Calls Tryd.prog 31 #[v, .int .i64 (n : Int)] w fun e w' => Below w.heap.size w w' ∧ RootRes w' e t n := by
  obtain ⟨vn1, vd1, rfl, hrn, hrd⟩ := h
  have HNn := hid hrn
  have HNd := hid hrd
  have HRn := hid (fun (W : World) (hW : Below w.heap.size w W) => Root_any vn1 t.2.1 n 64 W (hrn.below hW) hn (by omega) h2 h8 (ht.below hW))
  have HRd := hid (fun (W : World) (hW : Below w.heap.size w W) => Root_any vd1 t.2.2 n 64 W (hrd.below hW) hd (by omega) h2 h8 (ht.below hW))
  have HK := hid (And.intro (show rootOk t n = decide (nroot t.2.1 n ^ n = t.2.1 ∧ nroot t.2.2 n ^ n = t.2.2 ∧ ¬ (t.1 = true ∧ n % 2 = 0)) from rfl) (show rootr t n = if rootOk t n then (t.1, nroot t.2.1 n, nroot t.2.2 n) else (false, 0, 0) from rfl))
  have HBn := hid (And.intro (Nat.lt_of_le_of_lt (nroot_le (a := t.2.1) (show 0 < n by omega)) hn) (Nat.lt_of_le_of_lt (nroot_le (a := t.2.2) (show 0 < n by omega)) hd))
  have HL := hid (And.intro hn (And.intro hd (And.intro h2 h8)))
  show Calls _ _ _ _ fun e w' => Below w.heap.size w w' ∧ RootRes w' e t n
  clear hn hd h2 h8 ht
  obtain ⟨p1, k1, c1, rfl, _⟩ := hrn
  obtain ⟨p2, k2, c2, rfl, _⟩ := hrd
  obtain ⟨s1, hs1⟩ : ∃ s, s = t.1 := ⟨_, rfl⟩
  have hal := below_alloc2 w (.cells #[.bool s1, .slice p1 k1 c1, .slice p2 k2 c2] 50) (.cells #[.bool false, .slice none 0 0, .slice none 0 0] 50)
  have hVa := (Var3.alloc w (x := .bool s1) (y := .slice p1 k1 c1) (z := .slice p2 k2 c2) 50 trivial trivial trivial).below ((Below.refl _ _).alloc (Nat.le_refl _) (.cells #[.bool false, .slice none 0 0, .slice none 0 0] 50))
  have hVr := Var3.alloc2 w (.cells #[.bool s1, .slice p1 k1 c1, .slice p2 k2 c2] 50) (x := .bool false) (y := .slice none 0 0) (z := .slice none 0 0) 50 trivial trivial trivial
  rw [← hs1]
  have HS1 := hid hs1
  clear hs1
  go_enter Tryd.func31, Tryd.ntmps31
  go_upto_region 1 with fail
  generalize (w.alloc (.cells #[.bool s1, .slice p1 k1 c1, .slice p2 k2 c2] 50)).alloc (.cells #[.bool false, .slice none 0 0, .slice none 0 0] 50) = W0 at *
  have hn1 : w.heap.size + 1 ≤ W0.heap.size := by obtain ⟨_, h0, _⟩ := hVr; exact Nat.le_of_lt (Array.getElem?_eq_some_iff.1 h0).1
  have HV := hid (And.intro hVr hal)
  have HB0 := hid hal
  have HS : Hid (∀ w', Below (w.heap.size + 1) W0 w' → (w'.cell? ⟨w.heap.size, 0, none⟩ = some (.bool s1) ∧ w'.cell? ⟨w.heap.size, 1, none⟩ = some (.slice p1 k1 c1) ∧ w'.cell? ⟨w.heap.size, 2, none⟩ = some (.slice p2 k2 c2) ∧ Hid (Below (w.heap.size + 1) W0 w'))) :=
    hid fun w' hb => ⟨(bcellN hb _ _ (by omega)).trans hVa.cells.1, (bcellN hb _ _ (by omega)).trans hVa.cells.2.1, (bcellN hb _ _ (by omega)).trans hVa.cells.2.2.1, hid hb⟩
  clear hVr hVa hal
  go_wp2_with fail
  go_region_held3 (fun w' => w'.cell? ⟨w.heap.size, 0, none⟩ = some (.bool s1) ∧ w'.cell? ⟨w.heap.size, 1, none⟩ = some (.slice p1 k1 c1) ∧ w'.cell? ⟨w.heap.size, 2, none⟩ = some (.slice p2 k2 c2) ∧ Hid (Below (w.heap.size + 1) W0 w'))
    (first | exact HS.out _ (Below.refl _ _).drew | (exact HS.out _ (by assumption)))
    (first
      | (go_at_call_of 75 k1; refine (HRn.out _ (HB0.out.trans ((held3' (N := w.heap.size + 1) (W0 := W0) (by assumption)).mono (by omega)))).mono ?_; rintro e wa ⟨v6, rfl, hRa, hBa⟩; have hKa := held_any (by first | assumption | exact (Below.refl _ _).drew) hBa; have hKa2 := below_pre hKa hn1; obtain ⟨p6, k6, c6, rfl, hx6⟩ := id hRa; clear hx6)
      | (go_at_call_of 75 k2; refine (HRd.out _ (HB0.out.trans ((held3' (N := w.heap.size + 1) (W0 := W0) (by assumption)).mono (by omega)))).mono ?_; rintro e wb ⟨v7, rfl, hRb, hBb⟩; have hKb := held_any (by first | assumption | exact (Below.refl _ _).drew) hBb; have hKb2 := below_pre hKb hn1; obtain ⟨p7, k7, c7, rfl, hx7⟩ := id hRb; clear hx7))
  rename_i hHeld
  replace HS : Hid (∀ w', Below W0.heap.size W0 w' → (w'.cell? ⟨w.heap.size, 0, none⟩ = some (.bool s1) ∧ w'.cell? ⟨w.heap.size, 1, none⟩ = some (.slice p1 k1 c1) ∧ w'.cell? ⟨w.heap.size, 2, none⟩ = some (.slice p2 k2 c2) ∧ Hid (Below W0.heap.size W0 w'))) :=
    hid fun w' hb => have h := HS.out w' (below_pre hb hn1); ⟨h.1, h.2.1, h.2.2.1, hid hb⟩
  clear hHeld HRn HRd hn1
  obtain ⟨N, hN⟩ : ∃ N, N = nroot t.2.1 n := ⟨_, rfl⟩
  obtain ⟨D, hD⟩ : ∃ D, D = nroot t.2.2 n := ⟨_, rfl⟩
  rw [← hN] at hRa HK HBn
  rw [← hD] at hRb HK HBn
  clear hN hD
  have HX := hid (And.intro (hRa.below hBb) (And.intro hRb (And.intro hKb2 hKb)))
  clear hRa hRb hBa hBb hKa hKa2 hKb hKb2
  obtain ⟨cn, hcn⟩ : ∃ c, c = cmp3 (N ^ n) t.2.1 := ⟨_, rfl⟩
  obtain ⟨cd, hcd⟩ : ∃ c, c = cmp3 (D ^ n) t.2.2 := ⟨_, rfl⟩
  have HPn := hid (fun (W : World) (hW : Below wb.heap.size wb W) => Pow_any (.slice p6 k6 c6) N n 64 W (HX.out.1.below hW) HBn.out.1 (by omega) (by have := HL.out.2.2.2; omega))
  have HPd := hid (fun (W : World) (hW : Below wb.heap.size wb W) => Pow_any (.slice p7 k7 c7) D n 64 W (HX.out.2.1.below hW) HBn.out.2 (by omega) (by have := HL.out.2.2.2; omega))
  have HCn := hid (fun (W : World) (v : Value) (hW : Below w.heap.size w W) (hR : Rep W32 W v (N ^ n)) => Compare_any v (.slice p1 k1 c1) (N ^ n) t.2.1 W hR (HNn.out.below hW) (lt_big (pow_Wb HBn.out.1 (by omega) (by have := HL.out.2.2.2; omega)) (by omega)) (lt_big HL.out.1 (by omega)))
  have HCd := hid (fun (W : World) (v : Value) (hW : Below w.heap.size w W) (hR : Rep W32 W v (D ^ n)) => Compare_any v (.slice p2 k2 c2) (D ^ n) t.2.2 W hR (HNd.out.below hW) (lt_big (pow_Wb HBn.out.2 (by omega) (by have := HL.out.2.2.2; omega)) (by omega)) (lt_big HL.out.2.1 (by omega)))
  rw [← hcn] at HCn
  rw [← hcd] at HCd
  have HC := hid (And.intro hcn hcd)
  clear hcn hcd
  go_wp2_with fail
  by_cases hc0 : cn = 0
  · obtain rfl := hc0
    go_region_held3 (fun w' => w'.cell? ⟨w.heap.size, 0, none⟩ = some (.bool s1) ∧ w'.cell? ⟨w.heap.size, 1, none⟩ = some (.slice p1 k1 c1) ∧ w'.cell? ⟨w.heap.size, 2, none⟩ = some (.slice p2 k2 c2) ∧ Hid (Below W0.heap.size W0 w'))
      (first | exact HS.out _ HX.out.2.2.2.drew | (exact HS.out _ (by assumption)))
      (first
        | (go_at_call_of 76 k6; refine (HPn.out _ (Below.refl _ _).drew).mono ?_; rintro e wc ⟨v8, rfl, hRc, hBc⟩; have hKc := held_any HX.out.2.2.2.drew hBc; have hKc0 := HB0.out.trans (hKc.mono HB0.out.size); obtain ⟨p8, k8, c8, rfl, hx8⟩ := id hRc; clear hx8)
        | (go_at_call_of 77 k1; refine (HCn.out _ _ hKc0 hRc).mono ?_; rintro e wd ⟨rfl, q9, rfl⟩; have hKd := below_drewN hKc q9; have hKd2 := below_drewN ((Below.refl _ _).drew.trans (hBc.mono (Nat.le_refl _))) q9)
        | (go_at_call_of 76 k7; refine (HPd.out _ hKd2).mono ?_; rintro e we ⟨v9, rfl, hRe, hBe⟩; have hKe := held_any hKd hBe; have hKe0 := HB0.out.trans (hKe.mono HB0.out.size); obtain ⟨p9, k9, c9, rfl, hx9⟩ := id hRe; clear hx9)
        | (go_at_call_of 77 k2; refine (HCd.out _ _ hKe0 hRe).mono ?_; rintro e wf ⟨rfl, q8, rfl⟩; have hKf := below_drewN hKe q8))
    rename_i hHeld
    clear hHeld
    have hV9 := HV.out.1.below hKf
    have hB9 := HV.out.2.trans (hKf.mono HV.out.2.size)
    have hE9 := below_drewN (hKd2.trans (hBe.mono hKd2.size)) q8
    obtain ⟨b0, b1, b2, _⟩ := HS.out _ hKf
    obtain ⟨x0, x1, x2, y0, y1, y2⟩ := id hV9.cells
    have hF := hid (And.intro hV9 (And.intro hB9 (And.intro (HX.out.1.below hE9) (HX.out.2.1.below hE9))))
    clear hKf hKe hKe0 hKd hKd2 hKc hKc0 hBc hRc hBe hRe hV9 hB9 hE9 HPn HPd HCn HCd HS
    by_cases hd0 : cd = 0
    · obtain rfl := hd0
      have HE := hid (And.intro (cmp3_zero HC.out.1.symm) (cmp3_zero HC.out.2.symm))
      cases s1
      · go_wp2_with fail
        refine FracRoot_ret rfl rfl (hF.out.1.store trivial trivial trivial) ⟨below_set3 hF.out.2.1 (Nat.le_succ _), ?_⟩
        have hk : rootOk t n = true := HK.out.1.trans (decide_eq_true ⟨HE.out.1, HE.out.2, fun h => absurd (HS1.out.trans h.1) (by decide)⟩)
        refine RootRes.yes hk (HK.out.2.trans (by rw [if_pos hk, ← HS1.out])) ⟨_, _, rfl, hF.out.2.2.1.store3 hF.out.1 _ _ _, hF.out.2.2.2.store3 hF.out.1 _ _ _⟩
      · by_cases he : n % 2 = 0
        · have ho1 : ((n : Int) % 2 == 0) = true := by rw [show (n : Int) % 2 = 0 by omega]; rfl
          have ho2 : (Int.tmod (n : Int) 2 == 0) = true := by rw [Int.tmod_eq_emod_of_nonneg (by omega)]; exact ho1
          have HO := hid he
          clear he
          go_wp2_with fail
          exact FracRoot_ret rfl rfl (hF.out.1.store trivial trivial trivial) ⟨below_set3 hF.out.2.1 (Nat.le_succ _), RootRes.no (HK.out.1.trans (decide_eq_false fun h => h.2.2 ⟨HS1.out.symm, HO.out⟩))⟩
        · have ho1 : ((n : Int) % 2 == 0) = false := by rw [show (n : Int) % 2 = 1 by omega]; rfl
          have ho2 : (Int.tmod (n : Int) 2 == 0) = false := by rw [Int.tmod_eq_emod_of_nonneg (by omega)]; exact ho1
          have HO := hid he
          clear he
          go_wp2_with fail
          refine FracRoot_ret rfl rfl (hF.out.1.store trivial trivial trivial) ⟨below_set3 hF.out.2.1 (Nat.le_succ _), ?_⟩
          have hk : rootOk t n = true := HK.out.1.trans (decide_eq_true ⟨HE.out.1, HE.out.2, fun h => HO.out h.2⟩)
          refine RootRes.yes hk (HK.out.2.trans (by rw [if_pos hk, ← HS1.out])) ⟨_, _, rfl, hF.out.2.2.1.store3 hF.out.1 _ _ _, hF.out.2.2.2.store3 hF.out.1 _ _ _⟩
    · have hcb : (cd == 0) = false := by simpa using hd0
      have hd1 := hid hd0
      clear hd0
      go_wp2_with fail
      exact FracRoot_ret rfl rfl (hF.out.1.store trivial trivial trivial) ⟨below_set3 hF.out.2.1 (Nat.le_succ _), RootRes.no (HK.out.1.trans (decide_eq_false fun h => hd1.out (by rw [HC.out.2, h.2.1, cmp3_eq])))⟩
  · have hcb : (cn == 0) = false := by simpa using hc0
    have hc1 := hid hc0
    clear hc0
    refine wp_region_held_drew (S := (fun w' => w'.cell? ⟨w.heap.size, 0, none⟩ = some (.bool s1) ∧ w'.cell? ⟨w.heap.size, 1, none⟩ = some (.slice p1 k1 c1) ∧ w'.cell? ⟨w.heap.size, 2, none⟩ = some (.slice p2 k2 c2) ∧ Hid (Below W0.heap.size W0 w'))) (by kernel_rfl) (HS.out _ HX.out.2.2.2.drew) (fun hHeld => ?_)
    refine wpAnyH_take (i := 0) (oi := { dst := some 17, op := Op.move (Operand.tmp 6), type := 48, pos := "grid.go:27", after := #[], guard := none }) (v := ?v0) rfl (by kernel_rfl) (by kernel_rfl) (by kernel_rfl) (fun _ _ _ h => h) (Or.inl ⟨by rfl, ?hy0⟩) (by assumption) ?_
    case hy0 => (intro w hSw; (try dsimp only at hSw); go_simp; (try (with_reducible rfl)))
    try simp only [Act.put, List.setIfInBounds_toArray, List.set_cons_zero, List.set_cons_succ]
    refine wpAnyH_take (i := 1) (oi := { dst := some 18, op := Op.move (Operand.tmp 1), type := 3, pos := "grid.go:27", after := #[], guard := none }) (v := ?v1) rfl (by kernel_rfl) (by kernel_rfl) (by kernel_rfl) (fun _ _ _ h => h) (Or.inl ⟨by rfl, ?hy1⟩) (by assumption) ?_
    case hy1 => (intro w hSw; (try dsimp only at hSw); go_simp; (try (with_reducible rfl)))
    try simp only [Act.put, List.setIfInBounds_toArray, List.set_cons_zero, List.set_cons_succ]
    refine wpAnyH_take (i := 3) (oi := { dst := some 20, op := Op.fieldAddr 50 (Operand.tmp 2) 1, type := 0, pos := "grid.go:27", after := #[], guard := none }) (v := ?v3) rfl (by kernel_rfl) (by kernel_rfl) (by kernel_rfl) (fun _ _ _ h => h) (Or.inl ⟨by rfl, ?hy3⟩) (by assumption) ?_
    case hy3 => (intro w hSw; (try dsimp only at hSw); go_simp; (try (with_reducible rfl)))
    try simp only [Act.put, List.setIfInBounds_toArray, List.set_cons_zero, List.set_cons_succ]
    refine wpAnyH_take (i := 4) (oi := { dst := some 21, op := Op.load 48 (Operand.tmp 20), type := 48, pos := "grid.go:27", after := #[{ on := 3, ground := Ground.data }], guard := none }) (v := ?v4) rfl (by kernel_rfl) (by kernel_rfl) (by kernel_rfl) (fun _ _ _ h => h) (Or.inl ⟨by rfl, ?hy4⟩) (by assumption) ?_
    case hy4 => (intro w hSw; (try dsimp only at hSw); go_simp; (try (with_reducible rfl)))
    try simp only [Act.put, List.setIfInBounds_toArray, List.set_cons_zero, List.set_cons_succ]
    refine wpAnyH_ready (rs := [2]) (by kernel_rfl) (by simp) ?_
    refine AllReadyH.cons (o := { dst := some 19, op := Op.call { callee := Callee.value (Operand.func 76), args := #[Operand.tmp 17, Operand.tmp 18], argTypes := #[48, 3] }, type := 48, pos := "grid.go:27", after := #[{ on := 0, ground := Ground.data }, { on := 1, ground := Ground.data }], guard := none }) rfl (fun K hK => ?_) AllReadyH.nil
    go_simp
    refine (HPn.out _ (Below.refl _ _).drew).mono ?_
    rintro e wc ⟨v8, rfl, hRc, hBc⟩
    have hKc := held_any HX.out.2.2.2.drew hBc
    obtain ⟨p8, k8, c8, rfl, hx8⟩ := id hRc
    clear hx8 hHeld
    try go_wp2_with fail
    refine hK.out _ _ ?_ (fun hHeld => ?_)
    · exact HS.out _ hKc
    clear hK K
    try simp only [Act.put, List.setIfInBounds_toArray, List.set_cons_zero, List.set_cons_succ]
    refine wpAnyH_ready (rs := [5]) (by kernel_rfl) (by simp) ?_
    refine AllReadyH.cons (o := { dst := some 22, op := Op.call { callee := Callee.value (Operand.func 77), args := #[Operand.tmp 19, Operand.tmp 21], argTypes := #[48, 48] }, type := 3, pos := "grid.go:27", after := #[{ on := 2, ground := Ground.data }, { on := 4, ground := Ground.data }, { on := 2, ground := Ground.chain }], guard := none }) rfl (fun K hK => ?_) AllReadyH.nil
    go_simp
    refine (HCn.out _ _ (HB0.out.trans (hKc.mono HB0.out.size)) hRc).mono ?_
    rintro e wd ⟨rfl, q9, rfl⟩
    have hKd := below_drewN hKc q9
    clear hHeld
    try go_wp2_with fail
    refine hK.out _ _ ?_ (fun hHeld => ?_)
    · exact HS.out _ hKd
    clear hK K
    try simp only [Act.put, List.setIfInBounds_toArray, List.set_cons_zero, List.set_cons_succ]
    refine wpAnyH_take (i := 6) (oi := { dst := some 23, op := Op.binOp BinOp.eql 3 (Operand.tmp 22) (Operand.const (Value.int IntKind.i64 0)) 3, type := 4, pos := "grid.go:27", after := #[{ on := 5, ground := Ground.data }], guard := none }) (v := ?v6) rfl (by kernel_rfl) (by kernel_rfl) (by kernel_rfl) (fun _ _ _ h => h) (Or.inl ⟨by rfl, ?hy6⟩) (by assumption) ?_
    case hy6 => (intro w hSw; (try dsimp only at hSw); go_simp; (try (with_reducible rfl)))
    try simp only [Act.put, List.setIfInBounds_toArray, List.set_cons_zero, List.set_cons_succ]
    refine wpAnyH_take (i := 7) (oi := { dst := some 24, op := Op.move (Operand.tmp 23), type := 4, pos := "grid.go:27", after := #[{ on := 6, ground := Ground.data }, { on := 5, ground := Ground.chain }], guard := none }) (v := ?v7) rfl (by kernel_rfl) (by kernel_rfl) (by kernel_rfl) (fun _ _ _ h => h) (Or.inl ⟨by rfl, ?hy7⟩) (by assumption) ?_
    case hy7 => (intro w hSw; (try dsimp only at hSw); go_simp; (try (with_reducible rfl)))
    try simp only [Act.put, List.setIfInBounds_toArray, List.set_cons_zero, List.set_cons_succ]
    refine wpAnyH_take (i := 8) (oi := { dst := some 25, op := Op.move (Operand.tmp 7), type := 48, pos := "grid.go:27", after := #[{ on := 7, ground := Ground.guard }], guard := some (7, true) }) (v := undef) rfl (by kernel_rfl) (by kernel_rfl) (by kernel_rfl) (fun _ _ _ h => h) (Or.inr ⟨by rfl, rfl⟩) (by assumption) ?_
    try simp only [Act.put, List.setIfInBounds_toArray, List.set_cons_zero, List.set_cons_succ]
    refine wpAnyH_take (i := 9) (oi := { dst := some 26, op := Op.move (Operand.tmp 1), type := 3, pos := "grid.go:27", after := #[{ on := 7, ground := Ground.guard }], guard := some (7, true) }) (v := undef) rfl (by kernel_rfl) (by kernel_rfl) (by kernel_rfl) (fun _ _ _ h => h) (Or.inr ⟨by rfl, rfl⟩) (by assumption) ?_
    try simp only [Act.put, List.setIfInBounds_toArray, List.set_cons_zero, List.set_cons_succ]
    refine wpAnyH_take (i := 10) (oi := { dst := some 27, op := Op.call { callee := Callee.value (Operand.func 76), args := #[Operand.tmp 25, Operand.tmp 26], argTypes := #[48, 3] }, type := 48, pos := "grid.go:27", after := #[{ on := 8, ground := Ground.data }, { on := 9, ground := Ground.data }, { on := 7, ground := Ground.chain }, { on := 7, ground := Ground.guard }], guard := some (7, true) }) (v := undef) rfl (by kernel_rfl) (by kernel_rfl) (by kernel_rfl) (fun _ _ _ h => h) (Or.inr ⟨by rfl, rfl⟩) (by assumption) ?_
    try simp only [Act.put, List.setIfInBounds_toArray, List.set_cons_zero, List.set_cons_succ]
    refine wpAnyH_take (i := 11) (oi := { dst := some 28, op := Op.fieldAddr 50 (Operand.tmp 2) 2, type := 0, pos := "grid.go:27", after := #[{ on := 7, ground := Ground.guard }], guard := some (7, true) }) (v := undef) rfl (by kernel_rfl) (by kernel_rfl) (by kernel_rfl) (fun _ _ _ h => h) (Or.inr ⟨by rfl, rfl⟩) (by assumption) ?_
    try simp only [Act.put, List.setIfInBounds_toArray, List.set_cons_zero, List.set_cons_succ]
    refine wpAnyH_take (i := 12) (oi := { dst := some 29, op := Op.load 48 (Operand.tmp 28), type := 48, pos := "grid.go:27", after := #[{ on := 11, ground := Ground.data }, { on := 7, ground := Ground.guard }], guard := some (7, true) }) (v := undef) rfl (by kernel_rfl) (by kernel_rfl) (by kernel_rfl) (fun _ _ _ h => h) (Or.inr ⟨by rfl, rfl⟩) (by assumption) ?_
    try simp only [Act.put, List.setIfInBounds_toArray, List.set_cons_zero, List.set_cons_succ]
    refine wpAnyH_take (i := 13) (oi := { dst := some 30, op := Op.call { callee := Callee.value (Operand.func 77), args := #[Operand.tmp 27, Operand.tmp 29], argTypes := #[48, 48] }, type := 3, pos := "grid.go:27", after := #[{ on := 10, ground := Ground.data }, { on := 12, ground := Ground.data }, { on := 10, ground := Ground.chain }, { on := 7, ground := Ground.guard }], guard := some (7, true) }) (v := undef) rfl (by kernel_rfl) (by kernel_rfl) (by kernel_rfl) (fun _ _ _ h => h) (Or.inr ⟨by rfl, rfl⟩) (by assumption) ?_
    try simp only [Act.put, List.setIfInBounds_toArray, List.set_cons_zero, List.set_cons_succ]
    refine wpAnyH_take (i := 14) (oi := { dst := some 31, op := Op.binOp BinOp.eql 3 (Operand.tmp 30) (Operand.const (Value.int IntKind.i64 0)) 3, type := 4, pos := "grid.go:27", after := #[{ on := 13, ground := Ground.data }, { on := 7, ground := Ground.guard }], guard := some (7, true) }) (v := undef) rfl (by kernel_rfl) (by kernel_rfl) (by kernel_rfl) (fun _ _ _ h => h) (Or.inr ⟨by rfl, rfl⟩) (by assumption) ?_
    try simp only [Act.put, List.setIfInBounds_toArray, List.set_cons_zero, List.set_cons_succ]
    refine wpAnyH_take (i := 15) (oi := { dst := some 32, op := Op.pick (Operand.tmp 24) (Operand.tmp 31) (Operand.const (Value.bool false)), type := 4, pos := "grid.go:27", after := #[{ on := 7, ground := Ground.data }, { on := 14, ground := Ground.data }], guard := none }) (v := ?v15) rfl (by kernel_rfl) (by kernel_rfl) (by kernel_rfl) (fun _ _ _ h => h) (Or.inl ⟨by rfl, ?hy15⟩) (by assumption) ?_
    case hy15 => (intro w hSw; (try dsimp only at hSw); go_simp; (try (with_reducible rfl)))
    try simp only [Act.put, List.setIfInBounds_toArray, List.set_cons_zero, List.set_cons_succ]
    refine wpAnyH_take (i := 16) (oi := { dst := some 8, op := Op.assign (Operand.tmp 32), type := 4, pos := "grid.go:27", after := #[{ on := 15, ground := Ground.data }, { on := 13, ground := Ground.chain }, { on := 0, ground := Ground.phase }, { on := 1, ground := Ground.phase }, { on := 2, ground := Ground.phase }, { on := 3, ground := Ground.phase }, { on := 4, ground := Ground.phase }, { on := 5, ground := Ground.phase }, { on := 6, ground := Ground.phase }, { on := 7, ground := Ground.phase }, { on := 8, ground := Ground.phase }, { on := 9, ground := Ground.phase }, { on := 10, ground := Ground.phase }, { on := 11, ground := Ground.phase }, { on := 12, ground := Ground.phase }, { on := 13, ground := Ground.phase }, { on := 14, ground := Ground.phase }, { on := 15, ground := Ground.phase }], guard := none }) (v := ?v16) rfl (by kernel_rfl) (by kernel_rfl) (by kernel_rfl) (fun _ _ _ h => h) (Or.inl ⟨by rfl, ?hy16⟩) (by assumption) ?_
    case hy16 => (intro w hSw; (try dsimp only at hSw); go_simp; (try (with_reducible rfl)))
    try simp only [Act.put, List.setIfInBounds_toArray, List.set_cons_zero, List.set_cons_succ]
    refine wpAnyH_done (by kernel_rfl) ?_ _
    have hV9 := HV.out.1.below hKd
    have hB9 := HV.out.2.trans (hKd.mono HV.out.2.size)
    obtain ⟨b0, b1, b2, _⟩ := HS.out _ hKd
    obtain ⟨x0, x1, x2, y0, y1, y2⟩ := id hV9.cells
    have hF := hid (And.intro hV9 hB9)
    clear hHeld hKd hKc hBc hRc hV9 hB9 HPn HPd HCn HCd HS
    go_wp2_with fail
    exact FracRoot_ret rfl rfl (hF.out.1.store trivial trivial trivial) ⟨below_set3 hF.out.2 (Nat.le_succ _), RootRes.no (HK.out.1.trans (decide_eq_false fun h => hc1.out (by rw [HC.out.1, h.1, cmp3_eq])))⟩
end Go.Proofs.YtnoonhomjnpbjaaDoor
