/- Powers of fractions and numbers, in the program. -/
import Derived.Test.YtjnfnngobkjneaaDoorPowA
import Derived.Test.YtjnfnngobkjneaaDoorPowM
namespace Go.Proofs.YtjnfnngobkjneaaDoor
open Go.RowKit Dg

theorem lt_1000 {x a : Nat} (h : x < W32 ^ a) (ha : a ≤ 1000) : x < W32 ^ 1000 := by
  generalize 1000 = b at *
  exact lt_pow h ha
theorem FracPow_ret {W : World} {B : Nat} {x y z ev : Value} {tm : Array Value} {R : Ending → World → Prop} (h2 : tm[4]?.getD undef = .pointer (some ⟨B, 0, none⟩)) (h3 : tm[5]?.getD undef = ev) (hV : Var3 W B x y z)
    (hR : R (.returned (.tuple #[.agg #[x, y, z], ev])) W) : bodyPost Tryd.prog Tryd.f43 R .ret { tmps := tm, defers := [] } W := by
  obtain ⟨c0, c1, c2, _, _, _⟩ := hV.cells
  exact bodyPost_ret (v := .tuple #[.agg #[x, y, z], ev]) (by simp [results, Tryd.results43, go_sem, h2, h3, c0, c1, c2]) rfl hR

set_option maxHeartbeats 8000000 in
set_option maxRecDepth 100000 in
theorem FracPowPos_any (v : Value) (t : Bool × Nat × Nat) (k : Nat) (w : World) (h : FNorm w v t) (hn : t.2.1 < W32 ^ 1000) (hd : t.2.2 < W32 ^ 1000) (hk : k < 256) :
    Calls Tryd.prog 43 #[v, .int .i64 (k : Int)] w fun e w' => Below w.heap.size w w' ∧ FRes w' e 0 (fpow t k) := by
  obtain ⟨vn1, vd1, rfl, hrn, hrd⟩ := h
  have HPn := hid (fun (W : World) (hW : Below w.heap.size w W) => Pow_any vn1 t.2.1 k 1000 W (hrn.below hW) hn (Nat.le_refl _) hk)
  have HPd := hid (fun (W : World) (hW : Below w.heap.size w W) => Pow_any vd1 t.2.2 k 1000 W (hrd.below hW) hd (Nat.le_refl _) hk)
  obtain ⟨b, hb⟩ : ∃ b, b = decide (k % 2 = 1) := ⟨_, rfl⟩
  have ho1 : ((k : Int) % 2 == 1) = b := by
    rw [hb]
    by_cases h : k % 2 = 1
    · rw [decide_eq_true h, show (k : Int) % 2 = 1 by omega]; rfl
    · rw [decide_eq_false h, show (k : Int) % 2 = 0 by omega]; rfl
  have ho2 : (Int.tmod (k : Int) 2 == 1) = b := by rw [Int.tmod_eq_emod_of_nonneg (by omega)]; exact ho1
  have hneg : decide ((k : Int) < 0) = false := decide_eq_false (by omega)
  show Calls _ _ _ _ fun e w' => Below w.heap.size w w' ∧ FRes w' e 0 (t.1 && decide (k % 2 = 1), t.2.1 ^ k, t.2.2 ^ k)
  rw [← hb]
  clear hn hd hk hb
  obtain ⟨N, hN⟩ : ∃ b, b = t.2.1 ^ k := ⟨_, rfl⟩
  obtain ⟨D, hD⟩ : ∃ b, b = t.2.2 ^ k := ⟨_, rfl⟩
  rw [← hN] at HPn ⊢
  rw [← hD] at HPd ⊢
  clear hN hD
  obtain ⟨p1, k1, c1, rfl, _⟩ := hrn
  obtain ⟨p2, k2, c2, rfl, _⟩ := hrd
  obtain ⟨s1, hs1⟩ : ∃ s, s = t.1 := ⟨_, rfl⟩
  rw [← hs1]
  clear hs1
  have hal := below_alloc2 w (.cells #[.bool s1, .slice p1 k1 c1, .slice p2 k2 c2] 46) (.cells #[.bool false, .slice none 0 0, .slice none 0 0] 46)
  have hVa := (Var3.alloc w (x := .bool s1) (y := .slice p1 k1 c1) (z := .slice p2 k2 c2) 46 trivial trivial trivial).below ((Below.refl _ _).alloc (Nat.le_refl _) (.cells #[.bool false, .slice none 0 0, .slice none 0 0] 46))
  have hVr := Var3.alloc2 w (.cells #[.bool s1, .slice p1 k1 c1, .slice p2 k2 c2] 46) (x := .bool false) (y := .slice none 0 0) (z := .slice none 0 0) 46 trivial trivial trivial
  go_enter Tryd.func43, Tryd.ntmps43
  go_upto_region 1 with fail
  generalize (w.alloc (.cells #[.bool s1, .slice p1 k1 c1, .slice p2 k2 c2] 46)).alloc (.cells #[.bool false, .slice none 0 0, .slice none 0 0] 46) = W0 at *
  have hn1 : w.heap.size + 1 ≤ W0.heap.size := by obtain ⟨_, h0, _⟩ := hVr; exact Nat.le_of_lt (Array.getElem?_eq_some_iff.1 h0).1
  have HV := hid (And.intro hVr hal)
  have HB0 := hid hal
  obtain ⟨a0, a1, a2, _⟩ := id hVa.cells
  have HS : Hid (∀ w', Below (w.heap.size + 1) W0 w' → (w'.cell? ⟨w.heap.size, 0, none⟩ = some (.bool s1) ∧ w'.cell? ⟨w.heap.size, 1, none⟩ = some (.slice p1 k1 c1) ∧ w'.cell? ⟨w.heap.size, 2, none⟩ = some (.slice p2 k2 c2) ∧ Hid (Below (w.heap.size + 1) W0 w'))) :=
    hid fun w' hb => ⟨(bcellN hb _ _ (by omega)).trans hVa.cells.1, (bcellN hb _ _ (by omega)).trans hVa.cells.2.1, (bcellN hb _ _ (by omega)).trans hVa.cells.2.2.1, hid hb⟩
  clear hVr hVa hal
  go_wp2_with fail
  cases s1
  · refine wp_region_held_drew (S := fun w' => w'.cell? ⟨w.heap.size, 0, none⟩ = some (.bool false) ∧ w'.cell? ⟨w.heap.size, 1, none⟩ = some (.slice p1 k1 c1) ∧ w'.cell? ⟨w.heap.size, 2, none⟩ = some (.slice p2 k2 c2) ∧ Hid (Below (w.heap.size + 1) W0 w')) (by kernel_rfl) (HS.out _ (Below.refl _ _).drew) (fun hHeld => ?_)
    refine wpAnyH_take (i := 0) (oi := { dst := some 26, op := Op.fieldAddr 46 (Operand.tmp 2) 0, type := 0, pos := "fraction.go:164", after := #[], guard := none }) (v := ?v0) rfl (by kernel_rfl) (by kernel_rfl) (by kernel_rfl) (fun _ _ _ h => h) (Or.inl ⟨by rfl, ?hy0⟩) (by assumption) ?_
    case hy0 => (intro w hSw; (try dsimp only at hSw); go_simp; (try (with_reducible rfl)))
    try simp only [Act.put, List.setIfInBounds_toArray, List.set_cons_zero, List.set_cons_succ]
    refine wpAnyH_take (i := 1) (oi := { dst := some 27, op := Op.load 4 (Operand.tmp 26), type := 4, pos := "fraction.go:164", after := #[{ on := 0, ground := Ground.data }], guard := none }) (v := ?v1) rfl (by kernel_rfl) (by kernel_rfl) (by kernel_rfl) (fun _ _ _ h => h) (Or.inl ⟨by rfl, ?hy1⟩) (by assumption) ?_
    case hy1 => (intro w hSw; (try dsimp only at hSw); go_simp; (try (with_reducible rfl)))
    try simp only [Act.put, List.setIfInBounds_toArray, List.set_cons_zero, List.set_cons_succ]
    refine wpAnyH_take (i := 2) (oi := { dst := some 28, op := Op.move (Operand.tmp 27), type := 4, pos := "fraction.go:164", after := #[{ on := 1, ground := Ground.data }], guard := none }) (v := ?v2) rfl (by kernel_rfl) (by kernel_rfl) (by kernel_rfl) (fun _ _ _ h => h) (Or.inl ⟨by rfl, ?hy2⟩) (by assumption) ?_
    case hy2 => (intro w hSw; (try dsimp only at hSw); go_simp; (try (with_reducible rfl)))
    try simp only [Act.put, List.setIfInBounds_toArray, List.set_cons_zero, List.set_cons_succ]
    refine wpAnyH_take (i := 3) (oi := { dst := some 29, op := Op.move (Operand.tmp 1), type := 3, pos := "fraction.go:164", after := #[{ on := 2, ground := Ground.guard }], guard := some (2, true) }) (v := undef) rfl (by kernel_rfl) (by kernel_rfl) (by kernel_rfl) (fun _ _ _ h => h) (Or.inr ⟨by rfl, rfl⟩) (by assumption) ?_
    try simp only [Act.put, List.setIfInBounds_toArray, List.set_cons_zero, List.set_cons_succ]
    refine wpAnyH_take (i := 4) (oi := { dst := some 30, op := Op.binOp BinOp.rem 3 (Operand.tmp 29) (Operand.const (Value.int IntKind.i64 2)) 3, type := 3, pos := "fraction.go:164", after := #[{ on := 3, ground := Ground.data }, { on := 2, ground := Ground.guard }], guard := some (2, true) }) (v := undef) rfl (by kernel_rfl) (by kernel_rfl) (by kernel_rfl) (fun _ _ _ h => h) (Or.inr ⟨by rfl, rfl⟩) (by assumption) ?_
    try simp only [Act.put, List.setIfInBounds_toArray, List.set_cons_zero, List.set_cons_succ]
    refine wpAnyH_take (i := 5) (oi := { dst := some 31, op := Op.binOp BinOp.eql 3 (Operand.tmp 30) (Operand.const (Value.int IntKind.i64 1)) 3, type := 4, pos := "fraction.go:164", after := #[{ on := 4, ground := Ground.data }, { on := 2, ground := Ground.guard }], guard := some (2, true) }) (v := undef) rfl (by kernel_rfl) (by kernel_rfl) (by kernel_rfl) (fun _ _ _ h => h) (Or.inr ⟨by rfl, rfl⟩) (by assumption) ?_
    try simp only [Act.put, List.setIfInBounds_toArray, List.set_cons_zero, List.set_cons_succ]
    refine wpAnyH_take (i := 6) (oi := { dst := some 32, op := Op.pick (Operand.tmp 28) (Operand.tmp 31) (Operand.const (Value.bool false)), type := 4, pos := "fraction.go:164", after := #[{ on := 2, ground := Ground.data }, { on := 5, ground := Ground.data }], guard := none }) (v := ?v6) rfl (by kernel_rfl) (by kernel_rfl) (by kernel_rfl) (fun _ _ _ h => h) (Or.inl ⟨by rfl, ?hy6⟩) (by assumption) ?_
    case hy6 => (intro w hSw; (try dsimp only at hSw); go_simp; (try (with_reducible rfl)))
    try simp only [Act.put, List.setIfInBounds_toArray, List.set_cons_zero, List.set_cons_succ]
    refine wpAnyH_take (i := 7) (oi := { dst := some 33, op := Op.fieldAddr 46 (Operand.tmp 2) 1, type := 0, pos := "fraction.go:164", after := #[], guard := none }) (v := ?v7) rfl (by kernel_rfl) (by kernel_rfl) (by kernel_rfl) (fun _ _ _ h => h) (Or.inl ⟨by rfl, ?hy7⟩) (by assumption) ?_
    case hy7 => (intro w hSw; (try dsimp only at hSw); go_simp; (try (with_reducible rfl)))
    try simp only [Act.put, List.setIfInBounds_toArray, List.set_cons_zero, List.set_cons_succ]
    refine wpAnyH_take (i := 8) (oi := { dst := some 34, op := Op.load 42 (Operand.tmp 33), type := 42, pos := "fraction.go:164", after := #[{ on := 7, ground := Ground.data }], guard := none }) (v := ?v8) rfl (by kernel_rfl) (by kernel_rfl) (by kernel_rfl) (fun _ _ _ h => h) (Or.inl ⟨by rfl, ?hy8⟩) (by assumption) ?_
    case hy8 => (intro w hSw; (try dsimp only at hSw); go_simp; (try (with_reducible rfl)))
    try simp only [Act.put, List.setIfInBounds_toArray, List.set_cons_zero, List.set_cons_succ]
    refine wpAnyH_take (i := 9) (oi := { dst := some 35, op := Op.move (Operand.tmp 1), type := 3, pos := "fraction.go:164", after := #[], guard := none }) (v := ?v9) rfl (by kernel_rfl) (by kernel_rfl) (by kernel_rfl) (fun _ _ _ h => h) (Or.inl ⟨by rfl, ?hy9⟩) (by assumption) ?_
    case hy9 => (intro w hSw; (try dsimp only at hSw); go_simp; (try (with_reducible rfl)))
    try simp only [Act.put, List.setIfInBounds_toArray, List.set_cons_zero, List.set_cons_succ]
    refine wpAnyH_take (i := 11) (oi := { dst := some 37, op := Op.fieldAddr 46 (Operand.tmp 2) 2, type := 0, pos := "fraction.go:164", after := #[], guard := none }) (v := ?v11) rfl (by kernel_rfl) (by kernel_rfl) (by kernel_rfl) (fun _ _ _ h => h) (Or.inl ⟨by rfl, ?hy11⟩) (by assumption) ?_
    case hy11 => (intro w hSw; (try dsimp only at hSw); go_simp; (try (with_reducible rfl)))
    try simp only [Act.put, List.setIfInBounds_toArray, List.set_cons_zero, List.set_cons_succ]
    refine wpAnyH_take (i := 12) (oi := { dst := some 38, op := Op.load 42 (Operand.tmp 37), type := 42, pos := "fraction.go:164", after := #[{ on := 11, ground := Ground.data }], guard := none }) (v := ?v12) rfl (by kernel_rfl) (by kernel_rfl) (by kernel_rfl) (fun _ _ _ h => h) (Or.inl ⟨by rfl, ?hy12⟩) (by assumption) ?_
    case hy12 => (intro w hSw; (try dsimp only at hSw); go_simp; (try (with_reducible rfl)))
    try simp only [Act.put, List.setIfInBounds_toArray, List.set_cons_zero, List.set_cons_succ]
    refine wpAnyH_take (i := 13) (oi := { dst := some 39, op := Op.move (Operand.tmp 1), type := 3, pos := "fraction.go:164", after := #[], guard := none }) (v := ?v13) rfl (by kernel_rfl) (by kernel_rfl) (by kernel_rfl) (fun _ _ _ h => h) (Or.inl ⟨by rfl, ?hy13⟩) (by assumption) ?_
    case hy13 => (intro w hSw; (try dsimp only at hSw); go_simp; (try (with_reducible rfl)))
    try simp only [Act.put, List.setIfInBounds_toArray, List.set_cons_zero, List.set_cons_succ]
    refine wpAnyH_ready (rs := [10]) (by kernel_rfl) (by simp) ?_
    refine AllReadyH.cons (o := { dst := some 36, op := Op.call { callee := Callee.value (Operand.func 59), args := #[Operand.tmp 34, Operand.tmp 35], argTypes := #[42, 3] }, type := 42, pos := "fraction.go:164", after := #[{ on := 8, ground := Ground.data }, { on := 9, ground := Ground.data }, { on := 2, ground := Ground.chain }], guard := none }) rfl (fun K hK => ?_) AllReadyH.nil
    go_simp
    refine (HPn.out _ (HB0.out.trans ((held3' (N := w.heap.size + 1) (W0 := W0) hHeld).mono (by omega)))).mono ?_
    rintro e wa ⟨v6, rfl, hRa, hBa⟩
    have hKa := held_any (W0 := W0) (Below.refl _ _).drew hBa
    have hKa2 := below_pre hKa hn1
    obtain ⟨p6, k6, c6, rfl, hx6⟩ := id hRa
    clear hx6 hHeld
    try go_wp2_with fail
    refine hK.out _ _ ?_ (fun hHeld => ?_)
    · exact HS.out _ hKa2
    clear hK K
    try simp only [Act.put, List.setIfInBounds_toArray, List.set_cons_zero, List.set_cons_succ]
    refine wpAnyH_ready (rs := [14]) (by kernel_rfl) (by simp) ?_
    refine AllReadyH.cons (o := { dst := some 40, op := Op.call { callee := Callee.value (Operand.func 59), args := #[Operand.tmp 38, Operand.tmp 39], argTypes := #[42, 3] }, type := 42, pos := "fraction.go:164", after := #[{ on := 12, ground := Ground.data }, { on := 13, ground := Ground.data }, { on := 10, ground := Ground.chain }], guard := none }) rfl (fun K hK => ?_) AllReadyH.nil
    go_simp
    refine (HPd.out _ (HB0.out.trans (hKa.mono (by omega)))).mono ?_
    rintro e wb ⟨v7, rfl, hRb, hBb⟩
    have hKb := held_any hKa hBb
    have hKb2 := below_pre hKb hn1
    obtain ⟨p7, k7, c7, rfl, hx7⟩ := id hRb
    clear hx7 hHeld
    obtain ⟨x0, x1, x2, y0, y1, y2⟩ := (HV.out.1.below hKb).cells
    try go_wp2_with fail
    refine hK.out _ _ ?_ (fun hHeld => ?_)
    · exact HS.out _ hKb2
    clear hK K
    try simp only [Act.put, List.setIfInBounds_toArray, List.set_cons_zero, List.set_cons_succ]
    refine wpAnyH_take (i := 15) (oi := { dst := some 41, op := Op.build 46 #[(0, Operand.tmp 32), (1, Operand.tmp 36), (2, Operand.tmp 40)], type := 46, pos := "fraction.go:164", after := #[{ on := 6, ground := Ground.data }, { on := 10, ground := Ground.data }, { on := 14, ground := Ground.data }], guard := none }) (v := ?v15) rfl (by kernel_rfl) (by kernel_rfl) (by kernel_rfl) (fun _ _ _ h => h) (Or.inl ⟨by rfl, ?hy15⟩) (by assumption) ?_
    case hy15 => (intro w hSw; (try dsimp only at hSw); go_simp; (try (with_reducible rfl)))
    try simp only [Act.put, List.setIfInBounds_toArray, List.set_cons_zero, List.set_cons_succ]
    refine wpAnyH_ready (rs := [16]) (by kernel_rfl) (by simp) ?_
    refine AllReadyH.cons (o := { dst := none, op := Op.store 46 (Operand.tmp 4) (Operand.tmp 41), type := 0, pos := "fraction.go:164", after := #[{ on := 15, ground := Ground.data }, { on := 14, ground := Ground.chain }, { on := 0, ground := Ground.phase }, { on := 1, ground := Ground.phase }, { on := 2, ground := Ground.phase }, { on := 3, ground := Ground.phase }, { on := 4, ground := Ground.phase }, { on := 5, ground := Ground.phase }, { on := 6, ground := Ground.phase }, { on := 7, ground := Ground.phase }, { on := 8, ground := Ground.phase }, { on := 9, ground := Ground.phase }, { on := 10, ground := Ground.phase }, { on := 11, ground := Ground.phase }, { on := 12, ground := Ground.phase }, { on := 13, ground := Ground.phase }, { on := 14, ground := Ground.phase }, { on := 15, ground := Ground.phase }], guard := none }) rfl (fun K hK => ?_) AllReadyH.nil
    go_simp
    try go_wp2_with fail
    refine hK.out _ _ ?_ (fun hHeld => ?_)
    · exact HS.out _ (below_set3 hKb2 (Nat.le_refl _))
    clear hK K
    try simp only [Act.put, List.setIfInBounds_toArray, List.set_cons_zero, List.set_cons_succ]
    refine wpAnyH_take (i := 17) (oi := { dst := some 5, op := Op.assign (Operand.const (Value.int IntKind.i64 0)), type := 25, pos := "fraction.go:164", after := #[{ on := 16, ground := Ground.chain }, { on := 0, ground := Ground.phase }, { on := 1, ground := Ground.phase }, { on := 2, ground := Ground.phase }, { on := 3, ground := Ground.phase }, { on := 4, ground := Ground.phase }, { on := 5, ground := Ground.phase }, { on := 6, ground := Ground.phase }, { on := 7, ground := Ground.phase }, { on := 8, ground := Ground.phase }, { on := 9, ground := Ground.phase }, { on := 10, ground := Ground.phase }, { on := 11, ground := Ground.phase }, { on := 12, ground := Ground.phase }, { on := 13, ground := Ground.phase }, { on := 14, ground := Ground.phase }, { on := 15, ground := Ground.phase }, { on := 16, ground := Ground.phase }], guard := none }) (v := ?v17) rfl (by kernel_rfl) (by kernel_rfl) (by kernel_rfl) (fun _ _ _ h => h) (Or.inl ⟨by rfl, ?hy17⟩) (by assumption) ?_
    case hy17 => (intro w hSw; (try dsimp only at hSw); go_simp; (try (with_reducible rfl)))
    try simp only [Act.put, List.setIfInBounds_toArray, List.set_cons_zero, List.set_cons_succ]
    refine wpAnyH_done (by kernel_rfl) ?_ _
    have HVb := HV.out.1.below hKb
    go_wp2_with fail
    exact FracPow_ret rfl rfl (HVb.store trivial trivial trivial) ⟨below_set3 (HV.out.2.trans (hKb.mono (by omega))) (Nat.le_succ _), .inr ⟨rfl, _, _, _, _, _, _, _, rfl, hid ⟨_, _, rfl, (hRa.below hBb).store3 HVb _ _ _, hRb.store3 HVb _ _ _⟩⟩⟩
  · cases b
    all_goals
      go_region_held3 (fun w' => w'.cell? ⟨w.heap.size, 0, none⟩ = some (.bool true) ∧ w'.cell? ⟨w.heap.size, 1, none⟩ = some (.slice p1 k1 c1) ∧ w'.cell? ⟨w.heap.size, 2, none⟩ = some (.slice p2 k2 c2) ∧ Hid (Below (w.heap.size + 1) W0 w'))
        (first | exact HS.out _ (Below.refl _ _).drew | (exact HS.out _ (by assumption)) | exact HS.out _ (below_set3 (by assumption) (Nat.le_refl _)))
        (first
          | (go_at_call_of 59 k1; refine (HPn.out _ (HB0.out.trans ((held3' (N := w.heap.size + 1) (W0 := W0) (by assumption)).mono (by omega)))).mono ?_; rintro e wa ⟨v6, rfl, hRa, hBa⟩; have hKa := held_any (by first | assumption | exact (Below.refl _ _).drew) hBa; have hKa2 := below_pre hKa hn1; obtain ⟨p6, k6, c6, rfl, hx6⟩ := id hRa; clear hx6)
          | (go_at_call_of 59 k2; refine (HPd.out _ (HB0.out.trans ((held3' (N := w.heap.size + 1) (W0 := W0) (by assumption)).mono (by omega)))).mono ?_; rintro e wb ⟨v7, rfl, hRb, hBb⟩; have hKb := held_any (by first | assumption | exact (Below.refl _ _).drew) hBb; have hKb2 := below_pre hKb hn1; obtain ⟨p7, k7, c7, rfl, hx7⟩ := id hRb; clear hx7; obtain ⟨x0, x1, x2, y0, y1, y2⟩ := (HV.out.1.below hKb).cells))
      rename_i hHeld
      clear hHeld
      have HVb := HV.out.1.below hKb
      go_wp2_with fail
      exact FracPow_ret rfl rfl (HVb.store trivial trivial trivial) ⟨below_set3 (HV.out.2.trans (hKb.mono (by omega))) (Nat.le_succ _), .inr ⟨rfl, _, _, _, _, _, _, _, rfl, hid ⟨_, _, rfl, (hRa.below hBb).store3 HVb _ _ _, hRb.store3 HVb _ _ _⟩⟩⟩

theorem FRes.any {w : World} {e : Ending} {c : Int} {t : Bool × Nat × Nat} (h : FRes w e c t) : ∃ sg pa ka ca pb kb cb, e = .returned (.tuple #[.agg #[.bool sg, .slice pa ka ca, .slice pb kb cb], .int .i64 c]) ∧ Hid (c = 0 → FNorm w (.agg #[.bool sg, .slice pa ka ca, .slice pb kb cb]) t) := by
  rcases h with ⟨h0, rfl⟩ | ⟨rfl, sg, pa, ka, ca, pb, kb, cb, rfl, hF⟩
  · exact ⟨false, none, 0, 0, none, 0, 0, rfl, hid fun h => absurd h h0⟩
  · exact ⟨sg, pa, ka, ca, pb, kb, cb, rfl, hid fun _ => hF.out⟩

set_option maxHeartbeats 16000000 in
set_option maxRecDepth 100000 in
theorem FracPowNeg_any (v : Value) (t : Bool × Nat × Nat) (k : Nat) (w : World) (h : FNorm w v t) (hn : t.2.1 < W32 ^ 64) (hd : t.2.2 < W32 ^ 64) (hz : t.2.1 = 0 → t.1 = false) (hk : k < 256) (hk0 : 0 < k) (ht : TabOk w) :
    Calls Tryd.prog 43 #[v, .int .i64 (-(k : Int))] w fun e w' => Below w.heap.size w w' ∧ FRes w' e (if t.2.1 = 0 then 10 else 0) (fpow (frinv t) k) := by
  have HFI := hid (fun (W : World) => fopen (t := (false, 1, 1)) (FracFromInt_any 1 W (by decide) (by decide)))
  have HDv := hid (fun (W : World) (v1 : Value) (h1 : FNorm W v1 (false, 1, 1)) (hW : Below w.heap.size w W) => (show Calls Tryd.prog 46 #[v1, v] W fun e w' => Below W.heap.size W w' ∧ ∃ sg pa ka ca pb kb cb, e = .returned (.tuple #[.agg #[.bool sg, .slice pa ka ca, .slice pb kb cb], .int .i64 (if t.2.1 = 0 then 10 else 0)]) ∧ Hid ((if t.2.1 = 0 then (10 : Int) else 0) = 0 → FNorm w' (.agg #[.bool sg, .slice pa ka ca, .slice pb kb cb]) (frinv t)) by
    have := FracDiv_any v1 v false 1 1 t.1 t.2.1 t.2.2 W h1 (FNorm.below h hW) (lt_4m (a := 1) (by decide) (by omega)) (lt_4m (a := 1) (by decide) (by omega)) (lt_4m hn (by omega)) (lt_4m hd (by omega)) (by decide) hz (ht.below hW)
    rw [fmul_one_inv] at this
    exact this.mono fun _ _ hR => ⟨hR.1, hR.2.any⟩))
  have hbd := frinv_bd hn hd
  have HPw := hid (fun (W : World) (v1 : Value) (h1 : FNorm W v1 (frinv t)) => FracPowPos_any v1 (frinv t) k W h1 (lt_1000 hbd.1 (by omega)) (lt_1000 hbd.2 (by omega)) hk)
  have hneg : decide (0 < k) = true := decide_eq_true hk0
  have hwr : IntKind.i64.wrap (k : Int) = k := by rw [IntKind.wrap_i64]; omega
  clear hn hd hz ht hbd
  obtain ⟨vn1, vd1, rfl, ⟨p1, k1, c1, rfl, _⟩, ⟨p2, k2, c2, rfl, _⟩⟩ := h
  obtain ⟨s, hs⟩ : ∃ s, s = t.1 := ⟨_, rfl⟩
  rw [← hs] at HDv ⊢
  clear hs
  obtain ⟨cc, hcc⟩ : ∃ c : Int, c = if t.2.1 = 0 then 10 else 0 := ⟨_, rfl⟩
  rw [← hcc] at HDv ⊢
  clear hcc
  obtain ⟨t1, h1⟩ : ∃ s, s = frinv t := ⟨_, rfl⟩
  rw [← h1] at HDv HPw ⊢
  clear h1
  have hal := below_alloc2 w (.cells #[.bool s, .slice p1 k1 c1, .slice p2 k2 c2] 46) (.cells #[.bool false, .slice none 0 0, .slice none 0 0] 46)
  have hVa := (Var3.alloc w (x := .bool s) (y := .slice p1 k1 c1) (z := .slice p2 k2 c2) 46 trivial trivial trivial).below ((Below.refl _ _).alloc (Nat.le_refl _) (.cells #[.bool false, .slice none 0 0, .slice none 0 0] 46))
  have hVr := Var3.alloc2 w (.cells #[.bool s, .slice p1 k1 c1, .slice p2 k2 c2] 46) (x := .bool false) (y := .slice none 0 0) (z := .slice none 0 0) 46 trivial trivial trivial
  go_enter Tryd.func43, Tryd.ntmps43
  go_upto_region 1 with fail
  generalize (w.alloc (.cells #[.bool s, .slice p1 k1 c1, .slice p2 k2 c2] 46)).alloc (.cells #[.bool false, .slice none 0 0, .slice none 0 0] 46) = W0 at *
  have HV := hid (And.intro hVr hal)
  have HS : Hid (∀ w', Below W0.heap.size W0 w' → (w'.cell? ⟨w.heap.size, 0, none⟩ = some (.bool s) ∧ w'.cell? ⟨w.heap.size, 1, none⟩ = some (.slice p1 k1 c1) ∧ w'.cell? ⟨w.heap.size, 2, none⟩ = some (.slice p2 k2 c2) ∧ Hid (Below W0.heap.size W0 w'))) :=
    hid fun w' hb => ⟨(hVa.below hb).cells.1, (hVa.below hb).cells.2.1, (hVa.below hb).cells.2.2.1, hid hb⟩
  clear hVr hVa hal
  go_wp2_with fail
  go_region_held3 (fun w' => w'.cell? ⟨w.heap.size, 0, none⟩ = some (.bool s) ∧ w'.cell? ⟨w.heap.size, 1, none⟩ = some (.slice p1 k1 c1) ∧ w'.cell? ⟨w.heap.size, 2, none⟩ = some (.slice p2 k2 c2) ∧ Hid (Below W0.heap.size W0 w'))
    (first | exact HS.out _ (Below.refl _ _).drew | (exact HS.out _ (by assumption)) | (exact HS.out _ (held3_alloc (by assumption) _)) | (exact HS.out _ (held3_alloc' (by assumption) _)) | (exact HS.out _ (below_al1 (by assumption) _)) | (exact HS.out _ (below_set3 (by assumption) (Nat.le_refl _))) | (exact HS.out _ (below_set3 hK2 hK1.size)))
    (first
      | (go_at_call 44; refine (HFI.out _).mono ?_; rintro e w1 ⟨sg, pa, ka, ca, pb, kb, cb, rfl, hF1, hB1⟩; have hK1 := held_any (held3' (W0 := W0) (by assumption)) hB1; (try (have hVn := ((Var3.alloc W0 (x := .bool false) (y := .slice none 0 0) (z := .slice none 0 0) 46 trivial trivial trivial).below (Below.refl _ _).drew).below hB1)))
      | (go_at_call 46; refine (HDv.out _ _ (by first | exact hF1.out | exact hF1.out.below ((Below.refl _ _).alloc (Nat.le_refl _) _)) (HV.out.2.trans ((held3' (W0 := W0) (by assumption)).mono HV.out.2.size))).mono ?_; rintro e w2 ⟨hB2, sg', pa', ka', ca', pb', kb', cb', rfl, hF2⟩; have hK2 := held_any (held3' (W0 := W0) (by assumption)) hB2; (try (have hVn2 := hVn.below hB2; obtain ⟨x0, x1, x2, y0, y1, y2⟩ := id hVn2.cells)); (try (have hVn2 := (Var3.alloc w1 (x := .bool false) (y := .slice none 0 0) (z := .slice none 0 0) 46 trivial trivial trivial).below hB2; obtain ⟨x0, x1, x2, y0, y1, y2⟩ := id hVn2.cells))))
  all_goals
    rename_i hHeld
    clear hHeld
    first
      | (have hVX : Hid (Var3 (((w2.setCell ⟨W0.heap.size, 0, none⟩ (.bool sg')).setCell ⟨W0.heap.size, 1, none⟩ (.slice pa' ka' ca')).setCell ⟨W0.heap.size, 2, none⟩ (.slice pb' kb' cb')) (W0.heap.size) (.bool sg') (.slice pa' ka' ca') (.slice pb' kb' cb')) := hid (hVn2.store trivial trivial trivial)
         have hFX : Hid (cc = 0 → FNorm (((w2.setCell ⟨W0.heap.size, 0, none⟩ (.bool sg')).setCell ⟨W0.heap.size, 1, none⟩ (.slice pa' ka' ca')).setCell ⟨W0.heap.size, 2, none⟩ (.slice pb' kb' cb')) (.agg #[.bool sg', .slice pa' ka' ca', .slice pb' kb' cb']) t1) := hid fun h => (hF2.out h).store3 hVn2 (.bool sg') (.slice pa' ka' ca') (.slice pb' kb' cb')
         have hKX : Hid (Below W0.heap.size W0 (((w2.setCell ⟨W0.heap.size, 0, none⟩ (.bool sg')).setCell ⟨W0.heap.size, 1, none⟩ (.slice pa' ka' ca')).setCell ⟨W0.heap.size, 2, none⟩ (.slice pb' kb' cb'))) := hid (below_set3 hK2 (Nat.le_refl _))
         have hXX : W0.heap.size ≤ W0.heap.size := Nat.le_refl _
         clear hVn2 hB2 hF2 x0 x1 x2 y0 y1 y2
         (try clear hVn)
         generalize (((w2.setCell ⟨W0.heap.size, 0, none⟩ (.bool sg')).setCell ⟨W0.heap.size, 1, none⟩ (.slice pa' ka' ca')).setCell ⟨W0.heap.size, 2, none⟩ (.slice pb' kb' cb')) = WX at *
         obtain ⟨X, hX⟩ : ∃ X, X = W0.heap.size := ⟨_, rfl⟩
         rw [← hX] at hVX ⊢
         have hXX : W0.heap.size ≤ X := by rw [hX]; exact hXX
         clear hX)
      | (have hVX : Hid (Var3 (((w2.setCell ⟨w1.heap.size, 0, none⟩ (.bool sg')).setCell ⟨w1.heap.size, 1, none⟩ (.slice pa' ka' ca')).setCell ⟨w1.heap.size, 2, none⟩ (.slice pb' kb' cb')) (w1.heap.size) (.bool sg') (.slice pa' ka' ca') (.slice pb' kb' cb')) := hid (hVn2.store trivial trivial trivial)
         have hFX : Hid (cc = 0 → FNorm (((w2.setCell ⟨w1.heap.size, 0, none⟩ (.bool sg')).setCell ⟨w1.heap.size, 1, none⟩ (.slice pa' ka' ca')).setCell ⟨w1.heap.size, 2, none⟩ (.slice pb' kb' cb')) (.agg #[.bool sg', .slice pa' ka' ca', .slice pb' kb' cb']) t1) := hid fun h => (hF2.out h).store3 hVn2 (.bool sg') (.slice pa' ka' ca') (.slice pb' kb' cb')
         have hKX : Hid (Below W0.heap.size W0 (((w2.setCell ⟨w1.heap.size, 0, none⟩ (.bool sg')).setCell ⟨w1.heap.size, 1, none⟩ (.slice pa' ka' ca')).setCell ⟨w1.heap.size, 2, none⟩ (.slice pb' kb' cb'))) := hid (below_set3 hK2 (hK1.size))
         have hXX : W0.heap.size ≤ w1.heap.size := hK1.size
         clear hVn2 hB2 hF2 x0 x1 x2 y0 y1 y2
         (try clear hVn)
         generalize (((w2.setCell ⟨w1.heap.size, 0, none⟩ (.bool sg')).setCell ⟨w1.heap.size, 1, none⟩ (.slice pa' ka' ca')).setCell ⟨w1.heap.size, 2, none⟩ (.slice pb' kb' cb')) = WX at *
         obtain ⟨X, hX⟩ : ∃ X, X = w1.heap.size := ⟨_, rfl⟩
         rw [← hX] at hVX ⊢
         have hXX : W0.heap.size ≤ X := by rw [hX]; exact hXX
         clear hX)
      | (have hVX : Hid (Var3 (w2.alloc (.cells #[.bool sg', .slice pa' ka' ca', .slice pb' kb' cb'] 46)) w2.heap.size (.bool sg') (.slice pa' ka' ca') (.slice pb' kb' cb')) := hid (Var3.alloc w2 46 trivial trivial trivial)
         have hFX : Hid (cc = 0 → FNorm (w2.alloc (.cells #[.bool sg', .slice pa' ka' ca', .slice pb' kb' cb'] 46)) (.agg #[.bool sg', .slice pa' ka' ca', .slice pb' kb' cb']) t1) := hid fun h => (hF2.out h).below ((Below.refl _ _).alloc (Nat.le_refl _) _)
         have hKX := hid (below_al1 hK2 (.cells #[.bool sg', .slice pa' ka' ca', .slice pb' kb' cb'] 46))
         have hXX : W0.heap.size ≤ w2.heap.size := hK2.size
         clear hB2 hF2
         generalize (w2.alloc (.cells #[.bool sg', .slice pa' ka' ca', .slice pb' kb' cb'] 46)) = WX at *
         generalize w2.heap.size = X at *)
    clear hK2 hK1 hB1 hF1 HDv HFI
    have hVr := HV.out.1.below hKX.out
    have hBr := HV.out.2.trans (hKX.out.mono HV.out.2.size)
    have hXr : w.heap.size ≤ X := Nat.le_trans HV.out.2.size hXX
    clear hXX hKX HS HV
    obtain ⟨a0, a1, a2, _⟩ := hVX.out.cells
    by_cases hc : cc = 0
    · subst hc
      have HF3 := hid (hFX.out rfl)
      have HV2 := hid (And.intro hVr hBr)
      clear hVr hBr hFX hVX hXr
      go_wp2_with fail
      (try rw [hwr])
      refine (HPw.out _ _ HF3.out).mono ?_
      rintro e w3 ⟨hB3, hR3⟩
      replace HV2 := hid (And.intro (HV2.out.1.below hB3) (HV2.out.2.trans (hB3.mono HV2.out.2.size)))
      clear hB3 a0 a1 a2
      obtain ⟨x0, x1, x2, y0, y1, y2⟩ := HV2.out.1.cells
      rcases hR3 with ⟨hc, _⟩ | ⟨_, s6, p6, k6, c6, p7, k7, c7, rfl, hF6⟩
      · exact absurd rfl hc
      · go_wp2_with fail
        exact FracPow_ret rfl rfl (HV2.out.1.store trivial trivial trivial) ⟨below_set3 HV2.out.2 (Nat.le_succ _), .inr ⟨rfl, _, _, _, _, _, _, _, rfl, hid (hF6.out.store3 HV2.out.1 _ _ _)⟩⟩
    · have hcb : (cc == 0) = false := by simpa using hc
      have HC := hid hc
      have HV2 := hid (And.intro hVr hBr)
      clear hFX hVX hXr hc hBr
      obtain ⟨x0, x1, x2, y0, y1, y2⟩ := id hVr.cells
      clear hVr
      go_wp2_with fail
      exact FracPow_ret rfl rfl (HV2.out.1.store trivial trivial trivial) ⟨below_set3 HV2.out.2 (Nat.le_succ _), .inl ⟨HC.out, rfl⟩⟩

/-- The power n of a fraction whose parts are not large. -/
theorem FracPow_any (v : Value) (t : Bool × Nat × Nat) (n : Int) (w : World) (h : FNorm w v t) (hn : t.2.1 < W32 ^ 64) (hd : t.2.2 < W32 ^ 64) (hz : t.2.1 = 0 → t.1 = false) (hlo : ¬ n < -32) (hhi : ¬ 32 < n) (ht : TabOk w) :
    Calls Tryd.prog 43 #[v, .int .i64 n] w fun e w' => Below w.heap.size w w' ∧ FRes w' e (powc t n) (powr t n) := by
  unfold powc powr
  rw [if_neg (by omega)]
  by_cases h0 : n < 0
  · obtain ⟨k, rfl⟩ : ∃ k : Nat, n = -(k : Int) := ⟨n.natAbs, by omega⟩
    rw [if_pos h0, show (-(k : Int)).natAbs = k by omega]
    have := FracPowNeg_any v t k w h hn hd hz (by omega) (by omega) ht
    by_cases hz2 : t.2.1 = 0
    · rw [if_pos ⟨h0, hz2⟩]; rwa [if_pos hz2] at this
    · rw [if_neg fun h => hz2 h.2]; rwa [if_neg hz2] at this
  · obtain ⟨k, rfl⟩ : ∃ k : Nat, n = (k : Int) := ⟨n.natAbs, by omega⟩
    rw [if_neg h0, if_neg fun h => h0 h.1, show ((k : Int)).natAbs = k by omega]
    exact FracPowPos_any v t k w h (lt_1000 hn (by omega)) (lt_1000 hd (by omega)) (by omega)

theorem Pow1_ret {W : World} {B : Nat} {x y z ev : Value} {tm : Array Value} {R : Ending → World → Prop} (h2 : tm[3]?.getD undef = .pointer (some ⟨B, 0, none⟩)) (h3 : tm[4]?.getD undef = ev) (hV : Var3 W B x y z)
    (hR : R (.returned (.tuple #[.agg #[x, y, z], ev])) W) : bodyPost Tryd.prog Tryd.f42 R .ret { tmps := tm, defers := [] } W := by
  obtain ⟨c0, c1, c2, _, _, _⟩ := hV.cells
  exact bodyPost_ret (v := .tuple #[.agg #[x, y, z], ev]) (by simp [results, Tryd.results42, go_sem, h2, h3, c0, c1, c2]) rfl hR
theorem enterPow1 (args : Array Value) (w : World) : (callFunc 42 args).run Tryd.prog w = .ok (.enter 42 args) w := call_enter Tryd.func42 (by kernel_rfl) rfl args w

set_option maxHeartbeats 4000000 in
set_option maxRecDepth 100000 in
theorem Pow1_any (Bp : Nat) (v : Value) (t : Bool × Nat × Nat) (n : Int) (w : World) (hp : PCell w Bp n) (hF : FNorm w v t) (ht : TabOk w) (hn : t.2.1 < W32 ^ 64) (hd : t.2.2 < W32 ^ 64) (hz : t.2.1 = 0 → t.1 = false) :
    Calls Tryd.prog 42 #[v, .pointer (some ⟨Bp, 0, none⟩)] w fun e w' => Below w.heap.size w w' ∧ FRes w' e (powc t n) (powr t n) := by
  have HOP := hid (fun (hlo : ¬ n < -32) (hhi : ¬ 32 < n) (W : World) (hW : Below w.heap.size w W) => FracPow_any v t n W (FNorm.below hF hW) hn hd hz hlo hhi (ht.below hW))
  obtain ⟨vn, vd, rfl, ⟨p1, k1, c1, rfl, _⟩, ⟨p2, k2, c2, rfl, _⟩⟩ := hF
  have HX := hid hp
  clear hp ht hn hd hz
  have hpw : powc t n = if n < -32 ∨ 32 < n then 2 else if n < 0 ∧ t.2.1 = 0 then 10 else 0 := rfl
  obtain ⟨cc, hcc⟩ : ∃ c, c = powc t n := ⟨_, rfl⟩
  obtain ⟨tr, htr⟩ : ∃ c, c = powr t n := ⟨_, rfl⟩
  rw [← hcc] at hpw HOP ⊢
  rw [← htr] at HOP ⊢
  clear hcc htr
  generalize t.1 = s at *
  go_enter Tryd.func42, Tryd.ntmps42
  go_upto_region 1 with fail
  have hK := below_alloc2 w (.cells #[.bool s, .slice p1 k1 c1, .slice p2 k2 c2] 46) (.cells #[.bool false, .slice none 0 0, .slice none 0 0] 46)
  have hVa := (Var3.alloc w (x := .bool s) (y := .slice p1 k1 c1) (z := .slice p2 k2 c2) 46 trivial trivial trivial).below ((Below.refl _ _).alloc (Nat.le_refl _) (.cells #[.bool false, .slice none 0 0, .slice none 0 0] 46))
  have hVr := Var3.alloc2 w (.cells #[.bool s, .slice p1 k1 c1, .slice p2 k2 c2] 46) (x := .bool false) (y := .slice none 0 0) (z := .slice none 0 0) 46 trivial trivial trivial
  generalize (w.alloc (.cells #[.bool s, .slice p1 k1 c1, .slice p2 k2 c2] 46)).alloc (.cells #[.bool false, .slice none 0 0, .slice none 0 0] 46) = W0 at *
  have hpc := (HX.out.below hK).1
  obtain ⟨x0, x1, x2, _⟩ := id hVa.cells
  have HV := hid (And.intro hVr hK)
  obtain ⟨b0, b1, b2, y0, y1, y2⟩ := id hVr.cells
  clear hVa hVr hK
  by_cases h1 : n < -32
  · have d1 : decide (n < -32) = true := decide_eq_true h1
    rw [if_pos (.inl h1)] at hpw
    subst hpw
    clear HOP h1
    go_wp2_with fail
    exact Pow1_ret rfl rfl (HV.out.1.store trivial trivial trivial) ⟨below_set3 HV.out.2 (Nat.le_succ _), .inl ⟨by decide, rfl⟩⟩
  · by_cases h2 : 32 < n
    · have d1 : decide (n < -32) = false := decide_eq_false h1
      have d2 : decide (32 < n) = true := decide_eq_true h2
      rw [if_pos (.inr h2)] at hpw
      subst hpw
      clear HOP h1 h2
      go_wp2_with fail
      exact Pow1_ret rfl rfl (HV.out.1.store trivial trivial trivial) ⟨below_set3 HV.out.2 (Nat.le_succ _), .inl ⟨by decide, rfl⟩⟩
    · have d1 : decide (n < -32) = false := decide_eq_false h1
      have d2 : decide (32 < n) = false := decide_eq_false h2
      have hcl := hid (HOP.out h1 h2 W0 HV.out.2)
      clear HOP h1 h2 hpw b0 b1 b2 y0 y1 y2
      go_wp2_with fail
      refine hcl.out.mono ?_
      rintro e w1 ⟨hB1, hR1⟩
      clear x0 x1 x2 hcl hpc d1 d2
      replace HV := hid (And.intro (HV.out.1.below hB1) (HV.out.2.trans (hB1.mono HV.out.2.size)))
      clear hB1
      obtain ⟨x0, x1, x2, y0, y1, y2⟩ := HV.out.1.cells
      rcases hR1 with ⟨hc, rfl⟩ | ⟨hc, sg, pa, ka, ca, pb, kb, cb, rfl, hF1⟩
      · unfold zeroF
        go_wp2_with fail
        exact Pow1_ret rfl rfl (HV.out.1.store trivial trivial trivial) ⟨below_set3 HV.out.2 (Nat.le_succ _), .inl ⟨hc, rfl⟩⟩
      · subst hc
        go_wp2_with fail
        exact Pow1_ret rfl rfl (HV.out.1.store trivial trivial trivial) ⟨below_set3 HV.out.2 (Nat.le_succ _), .inr ⟨rfl, _, _, _, _, _, _, _, rfl, hid (hF1.out.store3 HV.out.1 _ _ _)⟩⟩

theorem powr_bd {t : Bool × Nat × Nat} {n : Int} (h1 : t.2.1 < W32 ^ 64) (h2 : t.2.2 < W32 ^ 64) (hc : powc t n = 0) : (powr t n).2.1 < W32 ^ 1000000000 ∧ (powr t n).2.2 < W32 ^ 1000000000 := by
  have hr : n.natAbs ≤ 256 := by
    unfold powc at hc
    split at hc
    · exact absurd hc (by decide)
    · omega
  have hi := frinv_bd h1 h2
  unfold powr
  split
  · exact ⟨lt_big (pow_Wb hi.1 (by omega) hr) (by omega), lt_big (pow_Wb hi.2 (by omega) hr) (by omega)⟩
  · exact ⟨lt_big (pow_Wb h1 (by omega) hr) (by omega), lt_big (pow_Wb h2 (by omega) hr) (by omega)⟩
theorem nPow_ret {W : World} {B : Nat} {x y z ev : Value} {tm : Array Value} {R : Ending → World → Prop} (h2 : tm[4]?.getD undef = .pointer (some ⟨B, 0, none⟩)) (h3 : tm[5]?.getD undef = ev) (hV : Var3 W B x y z)
    (hR : R (.returned (.tuple #[.agg #[x, y, z], ev])) W) : bodyPost Tryd.prog Tryd.f13 R .ret { tmps := tm, defers := [] } W := by
  obtain ⟨c0, c1, c2, _, _, _⟩ := hV.cells
  exact bodyPost_ret (v := .tuple #[.agg #[x, y, z], ev]) (by simp [results, Tryd.results13, go_sem, h2, h3, c0, c1, c2]) rfl hR

set_option maxHeartbeats 4000000 in
set_option maxRecDepth 100000 in
theorem nPow_any (v : Value) (s : Bool) (n d : Nat) (p : Int) (w : World) (h : ARep w v s n d) (ht : TabOk w) :
    Calls Tryd.prog 13 #[v, .int .i64 p] w fun e w' => Below w.heap.size w w' ∧ FRes w' e (ucode n d (powc (frac s n (den1 d)) p) (powr (frac s n (den1 d)) p)) (outF (powr (frac s n (den1 d)) p)) := by
  have hA := hid h
  obtain ⟨vn, vd, rfl, ⟨p1, k1, c1, rfl, _⟩, ⟨p2, k2, c2, rfl, _⟩⟩ := h
  obtain ⟨tr, htr⟩ : ∃ U, U = powr (frac s n (den1 d)) p := ⟨_, rfl⟩
  obtain ⟨cc, hcc⟩ : ∃ U, U = powc (frac s n (den1 d)) p := ⟨_, rfl⟩
  obtain ⟨U, hU⟩ : ∃ U, U = ucode n d cc tr := ⟨_, rfl⟩
  have HQ := hid (And.intro htr hcc)
  rw [← htr, ← hcc, ← hU]
  have HU := hid hU
  have HT := hid ht
  clear hU ht htr hcc
  go_enter Tryd.func13, Tryd.ntmps13
  go_upto_region 1 with fail
  have hK := below_alloc3 w (.cells #[.bool s, .slice p1 k1 c1, .slice p2 k2 c2] 24) (.cells #[.int .i64 p] 3) (.cells #[.bool false, .slice none 0 0, .slice none 0 0] 24)
  have hVa := ((Var3.alloc w (x := .bool s) (y := .slice p1 k1 c1) (z := .slice p2 k2 c2) 24 trivial trivial trivial).below ((Below.refl _ _).alloc (Nat.le_refl _) (.cells #[.int .i64 p] 3))).below ((Below.refl _ _).alloc (Nat.le_refl _) (.cells #[.bool false, .slice none 0 0, .slice none 0 0] 24))
  have hpc := (PCell.new2 w (.cells #[.bool s, .slice p1 k1 c1, .slice p2 k2 c2] 24) p 3).below ((Below.refl _ _).alloc (Nat.le_refl _) (.cells #[.bool false, .slice none 0 0, .slice none 0 0] 24))
  have hVr := Var3.alloc3 w (.cells #[.bool s, .slice p1 k1 c1, .slice p2 k2 c2] 24) (.cells #[.int .i64 p] 3) (x := .bool false) (y := .slice none 0 0) (z := .slice none 0 0) 24 trivial trivial trivial
  generalize ((w.alloc (.cells #[.bool s, .slice p1 k1 c1, .slice p2 k2 c2] 24)).alloc (.cells #[.int .i64 p] 3)).alloc (.cells #[.bool false, .slice none 0 0, .slice none 0 0] 24) = W0 at *
  have HV : Hid (Var3 W0 (w.heap.size + 1 + 1) (.bool false) (.slice none 0 0) (.slice none 0 0) ∧ Below w.heap.size w W0) := hid ⟨hVr, hK⟩
  obtain ⟨x0, x1, x2, _⟩ := id hVa.cells
  have hcall := hid (unary_any 42 #[.pointer (some ⟨w.heap.size + 1, 0, none⟩)] _ s n d cc tr W0 (hA.out.below hK) (HT.out.below hK) enterPow1
    (fun W v' hW hL hF => by rw [HQ.out.1, HQ.out.2]; exact Pow1_any (w.heap.size + 1) v' _ p W (hpc.below hW) hF ((HT.out.below hK).below hW) (large_bd hL).1 (large_bd hL).2 (fun h => frac_zero_sign (den1_pos d) h))
    (fun hL hc => by rw [HQ.out.1]; exact powr_bd (large_bd hL).1 (large_bd hL).2 (HQ.out.2.symm.trans hc)))
  clear hVa hVr hK hpc
  go_wp2_with fail
  refine hcall.out.mono ?_
  rintro e w3 ⟨hB3, hR3⟩
  have hV3 := HV.out.1.below hB3
  obtain ⟨z0, z1, z2, r0, r1, r2⟩ := id hV3.cells
  have HV3 := hid (And.intro hV3 (HV.out.2.trans (hB3.mono HV.out.2.size)))
  clear x0 x1 x2 hcall HV hV3 hB3
  rw [← HU.out] at hR3
  rcases hR3 with ⟨hc, rfl⟩ | ⟨hc, sg', pa', ka', ca', pb', kb', cb', rfl, hF3⟩
  · unfold zeroF
    go_wp2_with fail
    exact nPow_ret rfl rfl (HV3.out.1.store trivial trivial trivial) ⟨below_set3 HV3.out.2 (by show w.heap.size ≤ w.heap.size + 1 + 1; omega), .inl ⟨hc, rfl⟩⟩
  · subst hc
    go_wp2_with fail
    exact nPow_ret rfl rfl (HV3.out.1.store trivial trivial trivial) ⟨below_set3 HV3.out.2 (by show w.heap.size ≤ w.heap.size + 1 + 1; omega), .inr ⟨rfl, _, _, _, _, _, _, _, rfl, hid (hF3.out.store3 HV3.out.1 _ _ _)⟩⟩
end Go.Proofs.YtjnfnngobkjneaaDoor
