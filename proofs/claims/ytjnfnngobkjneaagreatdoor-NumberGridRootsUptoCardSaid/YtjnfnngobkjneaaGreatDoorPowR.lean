/- Powers of natural numbers, in the specification. -/
import Derived.Test.YtjnfnngobkjneaaGreatDoorPowM
namespace Go.Proofs.YtjnfnngobkjneaaGreatDoor
open Go.RowKit Dg

theorem pow_B {x A m : Nat} (hx : x < B16 ^ A) : x ^ m < B16 ^ (A * m + 1) := by
  have h1 : x ^ m ≤ (B16 ^ A) ^ m := Nat.pow_le_pow_left (Nat.le_of_lt hx) m
  rw [← Nat.pow_mul] at h1
  exact Nat.lt_of_le_of_lt h1 (Nat.pow_lt_pow_right (by decide) (Nat.lt_succ_self _))
theorem pow_Bb {x A m : Nat} (hx : x < B16 ^ A) (hA : A ≤ 1000) (hm : m ≤ 256) : x ^ m < B16 ^ 300000 := by
  have h := pow_B (m := m) hx
  have hk : A * m + 1 ≤ 300000 := by have : A * m ≤ 1000 * 256 := Nat.mul_le_mul hA hm; omega
  generalize 300000 = k at *
  exact b_bigk h hk

set_option maxHeartbeats 4000000 in
set_option maxRecDepth 100000 in
theorem NatPow_any (va : Value) (x n A : Nat) (w : World) (ha : Rep B16 w va x) (hx : x < B16 ^ A) (hA : A ≤ 1000) (hn : n < 256) :
    Calls Tryz.prog 103 #[va, .int .i64 n] w fun e w' => ∃ v, e = .returned v ∧ Rep B16 w' v (x ^ n) ∧ Below w.heap.size w w' := by
  have HA := hid ha
  have HX := hid (And.intro hx hA)
  have HOf := hid (NatOf_any 1 w (by decide))
  clear ha hx hA
  go_enter Tryz.func103, Tryz.ntmps103
  go_wp2_with fail
  refine HOf.out.mono ?_
  rintro e w1 ⟨v1, rfl, hR1, hB1⟩
  clear HOf
  go_wp2_with fail
  go_loopw [5, 8] (fun v i wr => ∃ k : Nat, k ≤ n ∧ i = .int .i64 (k : Int) ∧ Rep B16 wr v (x ^ k) ∧ Below w.heap.size w wr) (fun _ i _ => n - (intOf i).toNat)
  case atStart => exact ⟨0, Nat.zero_le _, rfl, by rw [Nat.pow_zero]; exact hR1, hB1⟩
  case round =>
    obtain ⟨k, hk, rfl, hR, hB⟩ := hrel
    by_cases hlt : k < n
    · have HM := hid (NatMul_any u5 va (x ^ k) x wr hR (HA.out.below hB) (b_big (pow_Bb HX.out.1 HX.out.2 (show k ≤ 256 by omega)) (by omega)) (b_big HX.out.1 (by have := HX.out.2; omega)))
      have HB := hid hB
      clear hR hB hR1 hB1
      go_wp2_with fail
      refine HM.out.mono ?_
      rintro e w2 ⟨v2, rfl, hR2, hB2⟩
      rw [← Nat.pow_succ] at hR2
      have HR2 := hid (And.intro hR2 (HB.out.trans (hB2.mono HB.out.size)))
      clear hR2 hB2
      go_wp2_with fail
      go_roundw
      case rel => exact ⟨k + 1, by omega, by go_num, HR2.out.1, HR2.out.2⟩
      case measure => simp [intOf]; omega
    · obtain rfl : k = n := by omega
      have HR := hid (And.intro hR hB)
      clear hR hB hR1 hB1
      go_wp2_with fail
      go_ret
      exact ⟨_, rfl, HR.out.1, HR.out.2⟩
theorem rPower_ret {W : World} {B : Nat} {x y z : Value} {tm : Array Value} {R : Ending → World → Prop} (h2 : tm[4]?.getD undef = .pointer (some ⟨B, 0, none⟩)) (hV : Var3 W B x y z) (hR : R (.returned (.agg #[x, y, z])) W) :
    bodyPost Tryz.prog Tryz.f65 R .ret { tmps := tm, defers := [] } W := by
  obtain ⟨c0, c1, c2, _, _, _⟩ := hV.cells
  exact bodyPost_ret (v := .agg #[x, y, z]) (by simp [results, Tryz.results65, go_sem, h2, c0, c1, c2]) rfl hR

set_option maxHeartbeats 8000000 in
set_option maxRecDepth 100000 in
theorem rPowerPos_any (v : Value) (t : Bool × Nat × Nat) (k : Nat) (w : World) (h : QNorm w v t) (hn : t.2.1 < B16 ^ 1000) (hd : t.2.2 < B16 ^ 1000) (hk : k < 256) (h0 : 0 < t.2.2) :
    Calls Tryz.prog 65 #[v, .int .i64 (k : Int)] w fun e w' => ∃ v', e = .returned v' ∧ QNorm w' v' (fpow t k) ∧ Below w.heap.size w w' := by
  have HDa := hid (fun (W : World) (hW : Below w.heap.size w W) => den_any v t.1 t.2.1 t.2.2 W (h.below hW))
  rw [den1_self h0] at HDa
  obtain ⟨vn1, vd1, rfl, hrn, hrd⟩ := h
  have HPn := hid (fun (W : World) (hW : Below w.heap.size w W) => NatPow_any vn1 t.2.1 k 1000 W (hrn.below hW) hn (Nat.le_refl _) hk)
  have HPd := hid (fun (W : World) (v1 : Value) (h1 : Rep B16 W v1 t.2.2) => NatPow_any v1 t.2.2 k 1000 W h1 hd (Nat.le_refl _) hk)
  obtain ⟨b, hb⟩ : ∃ b, b = decide (k % 2 = 1) := ⟨_, rfl⟩
  have ho1 : ((k : Int) % 2 == 1) = b := by
    rw [hb]
    by_cases h : k % 2 = 1
    · rw [decide_eq_true h, show (k : Int) % 2 = 1 by omega]; rfl
    · rw [decide_eq_false h, show (k : Int) % 2 = 0 by omega]; rfl
  have ho2 : (Int.tmod (k : Int) 2 == 1) = b := by rw [Int.tmod_eq_emod_of_nonneg (by omega)]; exact ho1
  have hneg : decide ((k : Int) < 0) = false := decide_eq_false (by omega)
  show Calls _ _ _ _ fun e w' => ∃ v', e = .returned v' ∧ QNorm w' v' (t.1 && decide (k % 2 = 1), t.2.1 ^ k, t.2.2 ^ k) ∧ Below w.heap.size w w'
  rw [← hb]
  clear hn hd hk hb h0
  obtain ⟨N, hN⟩ : ∃ b, b = t.2.1 ^ k := ⟨_, rfl⟩
  obtain ⟨D, hD⟩ : ∃ b, b = t.2.2 ^ k := ⟨_, rfl⟩
  rw [← hN] at HPn ⊢
  rw [← hD] at HPd ⊢
  clear hN hD
  obtain ⟨p1, k1, c1, rfl, _⟩ := hrn
  obtain ⟨p2, k2, c2, rfl, _⟩ := hrd
  obtain ⟨s1, hs1⟩ : ∃ s, s = t.1 := ⟨_, rfl⟩
  rw [← hs1] at HDa ⊢
  clear hs1
  have hal := below_alloc2 w (.cells #[.bool s1, .slice p1 k1 c1, .slice p2 k2 c2] 53) (.cells #[.bool false, .slice none 0 0, .slice none 0 0] 53)
  have hVa := (Var3.alloc w (x := .bool s1) (y := .slice p1 k1 c1) (z := .slice p2 k2 c2) 53 trivial trivial trivial).below ((Below.refl _ _).alloc (Nat.le_refl _) (.cells #[.bool false, .slice none 0 0, .slice none 0 0] 53))
  have hVr := Var3.alloc2 w (.cells #[.bool s1, .slice p1 k1 c1, .slice p2 k2 c2] 53) (x := .bool false) (y := .slice none 0 0) (z := .slice none 0 0) 53 trivial trivial trivial
  go_enter Tryz.func65, Tryz.ntmps65
  go_upto_region 1 with fail
  generalize (w.alloc (.cells #[.bool s1, .slice p1 k1 c1, .slice p2 k2 c2] 53)).alloc (.cells #[.bool false, .slice none 0 0, .slice none 0 0] 53) = W0 at *
  have hn1 : w.heap.size + 1 ≤ W0.heap.size := by obtain ⟨_, h0, _⟩ := hVr; exact Nat.le_of_lt (Array.getElem?_eq_some_iff.1 h0).1
  have HV := hid (And.intro hVr hal)
  have HB0 := hid hal
  obtain ⟨a0, a1, a2, _⟩ := id hVa.cells
  have HS : Hid (∀ w', Below (w.heap.size + 1) W0 w' → (w'.cell? ⟨w.heap.size, 0, none⟩ = some (.bool s1) ∧ w'.cell? ⟨w.heap.size, 1, none⟩ = some (.slice p1 k1 c1) ∧ w'.cell? ⟨w.heap.size, 2, none⟩ = some (.slice p2 k2 c2) ∧ Hid (Below (w.heap.size + 1) W0 w'))) :=
    hid fun w' hb => ⟨(bcellN hb _ _ (by omega)).trans hVa.cells.1, (bcellN hb _ _ (by omega)).trans hVa.cells.2.1, (bcellN hb _ _ (by omega)).trans hVa.cells.2.2.1, hid hb⟩
  clear hVr hVa hal
  go_wp2_with fail
  cases s1
  · refine wp_region_held_drew (S := fun w' => w'.cell? ⟨w.heap.size, 0, none⟩ = some (.bool false) ∧ w'.cell? ⟨w.heap.size, 1, none⟩ = some (.slice p1 k1 c1) ∧ w'.cell? ⟨w.heap.size, 2, none⟩ = some (.slice p2 k2 c2) ∧ Hid (Below (w.heap.size + 1) W0 w')) (by kernel_rfl) (HS.out _ (Below.refl _ _).drew) (fun hHeld => ?_)
    refine wpAnyH_take (i := 0) (oi := { dst := some 13, op := Op.fieldAddr 53 (Operand.tmp 2) 0, type := 0, pos := "ref.go:215", after := #[], guard := none }) (v := ?v0) rfl (by kernel_rfl) (by kernel_rfl) (by kernel_rfl) (fun _ _ _ h => h) (Or.inl ⟨by rfl, ?hy0⟩) (by assumption) ?_
    case hy0 => (intro w hSw; (try dsimp only at hSw); go_simp; (try (with_reducible rfl)))
    try simp only [Act.put, List.setIfInBounds_toArray, List.set_cons_zero, List.set_cons_succ]
    refine wpAnyH_take (i := 1) (oi := { dst := some 14, op := Op.load 4 (Operand.tmp 13), type := 4, pos := "ref.go:215", after := #[{ on := 0, ground := Ground.data }], guard := none }) (v := ?v1) rfl (by kernel_rfl) (by kernel_rfl) (by kernel_rfl) (fun _ _ _ h => h) (Or.inl ⟨by rfl, ?hy1⟩) (by assumption) ?_
    case hy1 => (intro w hSw; (try dsimp only at hSw); go_simp; (try (with_reducible rfl)))
    try simp only [Act.put, List.setIfInBounds_toArray, List.set_cons_zero, List.set_cons_succ]
    refine wpAnyH_take (i := 2) (oi := { dst := some 15, op := Op.move (Operand.tmp 14), type := 4, pos := "ref.go:215", after := #[{ on := 1, ground := Ground.data }], guard := none }) (v := ?v2) rfl (by kernel_rfl) (by kernel_rfl) (by kernel_rfl) (fun _ _ _ h => h) (Or.inl ⟨by rfl, ?hy2⟩) (by assumption) ?_
    case hy2 => (intro w hSw; (try dsimp only at hSw); go_simp; (try (with_reducible rfl)))
    try simp only [Act.put, List.setIfInBounds_toArray, List.set_cons_zero, List.set_cons_succ]
    refine wpAnyH_take (i := 3) (oi := { dst := some 16, op := Op.move (Operand.tmp 1), type := 3, pos := "ref.go:215", after := #[{ on := 2, ground := Ground.guard }], guard := some (2, true) }) (v := undef) rfl (by kernel_rfl) (by kernel_rfl) (by kernel_rfl) (fun _ _ _ h => h) (Or.inr ⟨by rfl, rfl⟩) (by assumption) ?_
    try simp only [Act.put, List.setIfInBounds_toArray, List.set_cons_zero, List.set_cons_succ]
    refine wpAnyH_take (i := 4) (oi := { dst := some 17, op := Op.binOp BinOp.rem 3 (Operand.tmp 16) (Operand.const (Value.int IntKind.i64 2)) 3, type := 3, pos := "ref.go:215", after := #[{ on := 3, ground := Ground.data }, { on := 2, ground := Ground.guard }], guard := some (2, true) }) (v := undef) rfl (by kernel_rfl) (by kernel_rfl) (by kernel_rfl) (fun _ _ _ h => h) (Or.inr ⟨by rfl, rfl⟩) (by assumption) ?_
    try simp only [Act.put, List.setIfInBounds_toArray, List.set_cons_zero, List.set_cons_succ]
    refine wpAnyH_take (i := 5) (oi := { dst := some 18, op := Op.binOp BinOp.eql 3 (Operand.tmp 17) (Operand.const (Value.int IntKind.i64 1)) 3, type := 4, pos := "ref.go:215", after := #[{ on := 4, ground := Ground.data }, { on := 2, ground := Ground.guard }], guard := some (2, true) }) (v := undef) rfl (by kernel_rfl) (by kernel_rfl) (by kernel_rfl) (fun _ _ _ h => h) (Or.inr ⟨by rfl, rfl⟩) (by assumption) ?_
    try simp only [Act.put, List.setIfInBounds_toArray, List.set_cons_zero, List.set_cons_succ]
    refine wpAnyH_take (i := 6) (oi := { dst := some 19, op := Op.pick (Operand.tmp 15) (Operand.tmp 18) (Operand.const (Value.bool false)), type := 4, pos := "ref.go:215", after := #[{ on := 2, ground := Ground.data }, { on := 5, ground := Ground.data }], guard := none }) (v := ?v6) rfl (by kernel_rfl) (by kernel_rfl) (by kernel_rfl) (fun _ _ _ h => h) (Or.inl ⟨by rfl, ?hy6⟩) (by assumption) ?_
    case hy6 => (intro w hSw; (try dsimp only at hSw); go_simp; (try (with_reducible rfl)))
    try simp only [Act.put, List.setIfInBounds_toArray, List.set_cons_zero, List.set_cons_succ]
    refine wpAnyH_take (i := 7) (oi := { dst := some 20, op := Op.fieldAddr 53 (Operand.tmp 2) 1, type := 0, pos := "ref.go:215", after := #[], guard := none }) (v := ?v7) rfl (by kernel_rfl) (by kernel_rfl) (by kernel_rfl) (fun _ _ _ h => h) (Or.inl ⟨by rfl, ?hy7⟩) (by assumption) ?_
    case hy7 => (intro w hSw; (try dsimp only at hSw); go_simp; (try (with_reducible rfl)))
    try simp only [Act.put, List.setIfInBounds_toArray, List.set_cons_zero, List.set_cons_succ]
    refine wpAnyH_take (i := 8) (oi := { dst := some 21, op := Op.load 51 (Operand.tmp 20), type := 51, pos := "ref.go:215", after := #[{ on := 7, ground := Ground.data }], guard := none }) (v := ?v8) rfl (by kernel_rfl) (by kernel_rfl) (by kernel_rfl) (fun _ _ _ h => h) (Or.inl ⟨by rfl, ?hy8⟩) (by assumption) ?_
    case hy8 => (intro w hSw; (try dsimp only at hSw); go_simp; (try (with_reducible rfl)))
    try simp only [Act.put, List.setIfInBounds_toArray, List.set_cons_zero, List.set_cons_succ]
    refine wpAnyH_take (i := 9) (oi := { dst := some 22, op := Op.move (Operand.tmp 1), type := 3, pos := "ref.go:215", after := #[], guard := none }) (v := ?v9) rfl (by kernel_rfl) (by kernel_rfl) (by kernel_rfl) (fun _ _ _ h => h) (Or.inl ⟨by rfl, ?hy9⟩) (by assumption) ?_
    case hy9 => (intro w hSw; (try dsimp only at hSw); go_simp; (try (with_reducible rfl)))
    try simp only [Act.put, List.setIfInBounds_toArray, List.set_cons_zero, List.set_cons_succ]
    refine wpAnyH_take (i := 11) (oi := { dst := some 24, op := Op.load 53 (Operand.tmp 2), type := 53, pos := "ref.go:215", after := #[], guard := none }) (v := ?v11) rfl (by kernel_rfl) (by kernel_rfl) (by kernel_rfl) (fun _ _ _ h => h) (Or.inl ⟨by rfl, ?hy11⟩) (by assumption) ?_
    case hy11 => (intro w hSw; (try dsimp only at hSw); go_simp; (try (with_reducible rfl)))
    try simp only [Act.put, List.setIfInBounds_toArray, List.set_cons_zero, List.set_cons_succ]
    refine wpAnyH_take (i := 13) (oi := { dst := some 26, op := Op.move (Operand.tmp 1), type := 3, pos := "ref.go:215", after := #[], guard := none }) (v := ?v13) rfl (by kernel_rfl) (by kernel_rfl) (by kernel_rfl) (fun _ _ _ h => h) (Or.inl ⟨by rfl, ?hy13⟩) (by assumption) ?_
    case hy13 => (intro w hSw; (try dsimp only at hSw); go_simp; (try (with_reducible rfl)))
    try simp only [Act.put, List.setIfInBounds_toArray, List.set_cons_zero, List.set_cons_succ]
    refine wpAnyH_ready (rs := [10]) (by kernel_rfl) (by simp) ?_
    refine AllReadyH.cons (o := { dst := some 23, op := Op.call { callee := Callee.value (Operand.func 103), args := #[Operand.tmp 21, Operand.tmp 22], argTypes := #[51, 3] }, type := 51, pos := "ref.go:215", after := #[{ on := 8, ground := Ground.data }, { on := 9, ground := Ground.data }, { on := 2, ground := Ground.chain }], guard := none }) rfl (fun K hK => ?_) AllReadyH.nil
    go_simp
    refine (HPn.out _ (HB0.out.trans ((held3' (N := w.heap.size + 1) (W0 := W0) hHeld).mono (by omega)))).mono ?_
    rintro e wa ⟨v6, rfl, hRa, hBa⟩
    have hKa := held_any (W0 := W0) (Below.refl _ _).drew hBa
    have hKa2 := below_pre hKa hn1
    obtain ⟨p6, k6, c6, rfl, hx6⟩ := id hRa
    clear hx6 hHeld
    try go_wp2_with fail
    refine hK.out _ _ ?_ (fun hHeld => ?_)
    · exact HS.out _ hKa2
    clear hK K
    try simp only [Act.put, List.setIfInBounds_toArray, List.set_cons_zero, List.set_cons_succ]
    refine wpAnyH_ready (rs := [12]) (by kernel_rfl) (by simp) ?_
    refine AllReadyH.cons (o := { dst := some 25, op := Op.call { callee := Callee.value (Operand.func 44), args := #[Operand.tmp 24], argTypes := #[53] }, type := 51, pos := "ref.go:215", after := #[{ on := 11, ground := Ground.data }, { on := 10, ground := Ground.chain }], guard := none }) rfl (fun K hK => ?_) AllReadyH.nil
    go_simp
    refine (HDa.out _ (HB0.out.trans (hKa.mono (by omega)))).mono ?_
    rintro e wc ⟨v8, rfl, hRc, hBc⟩
    have hKc := held_any hKa hBc
    have hKc2 := below_pre hKc hn1
    obtain ⟨p8, k8, c8, rfl, hx8⟩ := id hRc
    clear hx8 hHeld
    try go_wp2_with fail
    refine hK.out _ _ ?_ (fun hHeld => ?_)
    · exact HS.out _ hKc2
    clear hK K
    try simp only [Act.put, List.setIfInBounds_toArray, List.set_cons_zero, List.set_cons_succ]
    refine wpAnyH_ready (rs := [14]) (by kernel_rfl) (by simp) ?_
    refine AllReadyH.cons (o := { dst := some 27, op := Op.call { callee := Callee.value (Operand.func 103), args := #[Operand.tmp 25, Operand.tmp 26], argTypes := #[51, 3] }, type := 51, pos := "ref.go:215", after := #[{ on := 12, ground := Ground.data }, { on := 13, ground := Ground.data }, { on := 12, ground := Ground.chain }], guard := none }) rfl (fun K hK => ?_) AllReadyH.nil
    go_simp
    refine (HPd.out _ _ hRc).mono ?_
    rintro e wb ⟨v7, rfl, hRb, hBb⟩
    have hKb := held_any hKc hBb
    have hKb2 := below_pre hKb hn1
    obtain ⟨p7, k7, c7, rfl, hx7⟩ := id hRb
    clear hx7 hHeld
    obtain ⟨x0, x1, x2, y0, y1, y2⟩ := (HV.out.1.below hKb).cells
    try go_wp2_with fail
    refine hK.out _ _ ?_ (fun hHeld => ?_)
    · exact HS.out _ hKb2
    clear hK K
    try simp only [Act.put, List.setIfInBounds_toArray, List.set_cons_zero, List.set_cons_succ]
    refine wpAnyH_take (i := 15) (oi := { dst := some 28, op := Op.build 53 #[(0, Operand.tmp 19), (1, Operand.tmp 23), (2, Operand.tmp 27)], type := 53, pos := "ref.go:215", after := #[{ on := 6, ground := Ground.data }, { on := 10, ground := Ground.data }, { on := 14, ground := Ground.data }], guard := none }) (v := ?v15) rfl (by kernel_rfl) (by kernel_rfl) (by kernel_rfl) (fun _ _ _ h => h) (Or.inl ⟨by rfl, ?hy15⟩) (by assumption) ?_
    case hy15 => (intro w hSw; (try dsimp only at hSw); go_simp; (try (with_reducible rfl)))
    try simp only [Act.put, List.setIfInBounds_toArray, List.set_cons_zero, List.set_cons_succ]
    refine wpAnyH_ready (rs := [16]) (by kernel_rfl) (by simp) ?_
    refine AllReadyH.cons (o := { dst := none, op := Op.store 53 (Operand.tmp 4) (Operand.tmp 28), type := 0, pos := "ref.go:215", after := #[{ on := 15, ground := Ground.data }, { on := 14, ground := Ground.chain }, { on := 0, ground := Ground.phase }, { on := 1, ground := Ground.phase }, { on := 2, ground := Ground.phase }, { on := 3, ground := Ground.phase }, { on := 4, ground := Ground.phase }, { on := 5, ground := Ground.phase }, { on := 6, ground := Ground.phase }, { on := 7, ground := Ground.phase }, { on := 8, ground := Ground.phase }, { on := 9, ground := Ground.phase }, { on := 10, ground := Ground.phase }, { on := 11, ground := Ground.phase }, { on := 12, ground := Ground.phase }, { on := 13, ground := Ground.phase }, { on := 14, ground := Ground.phase }, { on := 15, ground := Ground.phase }], guard := none }) rfl (fun K hK => ?_) AllReadyH.nil
    go_simp
    try go_wp2_with fail
    refine hK.out _ _ ?_ (fun hHeld => ?_)
    · exact HS.out _ (below_set3 hKb2 (Nat.le_refl _))
    clear hK K
    try simp only [Act.put, List.setIfInBounds_toArray, List.set_cons_zero, List.set_cons_succ]
    refine wpAnyH_done (by kernel_rfl) ?_ _
    have HVb := HV.out.1.below hKb
    go_wp2_with fail
    exact rPower_ret rfl (HVb.store trivial trivial trivial) ⟨_, rfl, ⟨_, _, rfl, ((hRa.below hBc).below hBb).store3 HVb _ _ _, hRb.store3 HVb _ _ _⟩, below_set3 (HV.out.2.trans (hKb.mono (by omega))) (Nat.le_succ _)⟩
  · cases b
    all_goals
      go_region_held3 (fun w' => w'.cell? ⟨w.heap.size, 0, none⟩ = some (.bool true) ∧ w'.cell? ⟨w.heap.size, 1, none⟩ = some (.slice p1 k1 c1) ∧ w'.cell? ⟨w.heap.size, 2, none⟩ = some (.slice p2 k2 c2) ∧ Hid (Below (w.heap.size + 1) W0 w'))
        (first | exact HS.out _ (Below.refl _ _).drew | (exact HS.out _ (by assumption)) | exact HS.out _ (below_set3 (by assumption) (Nat.le_refl _)))
        (first
          | (go_at_call_of 103 k1; refine (HPn.out _ (HB0.out.trans ((held3' (N := w.heap.size + 1) (W0 := W0) (by assumption)).mono (by omega)))).mono ?_; rintro e wa ⟨v6, rfl, hRa, hBa⟩; have hKa := held_any (by first | assumption | exact (Below.refl _ _).drew) hBa; have hKa2 := below_pre hKa hn1; obtain ⟨p6, k6, c6, rfl, hx6⟩ := id hRa; clear hx6)
          | (go_at_call 44; refine (HDa.out _ (HB0.out.trans ((held3' (N := w.heap.size + 1) (W0 := W0) (by assumption)).mono (by omega)))).mono ?_; rintro e wc ⟨v8, rfl, hRc, hBc⟩; have hKc := held_any hKa hBc; have hKc2 := below_pre hKc hn1; obtain ⟨p8, k8, c8, rfl, hx8⟩ := id hRc; clear hx8)
          | (go_at_call_of 103 k8; refine (HPd.out _ _ hRc).mono ?_; rintro e wb ⟨v7, rfl, hRb, hBb⟩; have hKb := held_any hKc hBb; have hKb2 := below_pre hKb hn1; obtain ⟨p7, k7, c7, rfl, hx7⟩ := id hRb; clear hx7; obtain ⟨x0, x1, x2, y0, y1, y2⟩ := (HV.out.1.below hKb).cells))
      rename_i hHeld
      clear hHeld
      have HVb := HV.out.1.below hKb
      go_wp2_with fail
      exact rPower_ret rfl (HVb.store trivial trivial trivial) ⟨_, rfl, ⟨_, _, rfl, ((hRa.below hBc).below hBb).store3 HVb _ _ _, hRb.store3 HVb _ _ _⟩, below_set3 (HV.out.2.trans (hKb.mono (by omega))) (Nat.le_succ _)⟩

theorem b_1000 {x a : Nat} (h : x < B16 ^ a) (ha : a ≤ 1000) : x < B16 ^ 1000 := by
  generalize 1000 = b at *
  exact b_bigk h ha
theorem frinv_bb {t : Bool × Nat × Nat} {A : Nat} (h1 : t.2.1 < B16 ^ A) (h2 : t.2.2 < B16 ^ A) : (frinv t).2.1 < B16 ^ A ∧ (frinv t).2.2 < B16 ^ A :=
  ⟨Nat.lt_of_le_of_lt (Nat.div_le_self _ _) h2, Nat.lt_of_le_of_lt (Nat.div_le_self _ _) h1⟩

set_option maxHeartbeats 8000000 in
set_option maxRecDepth 100000 in
theorem rPowerNeg_any (v : Value) (t : Bool × Nat × Nat) (k A : Nat) (w : World) (h : QNorm w v t) (hn : t.2.1 < B16 ^ A) (hd : t.2.2 < B16 ^ A) (hA : A ≤ 1000) (hA1 : 1 ≤ A) (hk : k < 256) (hk0 : 0 < k) (h0 : 0 < t.2.2) (h1 : 0 < t.2.1) :
    Calls Tryz.prog 65 #[v, .int .i64 (-(k : Int))] w fun e w' => ∃ v', e = .returned v' ∧ QNorm w' v' (fpow (frinv t) k) ∧ Below w.heap.size w w' := by
  have HI := hid (fun (W : World) => qopen (t := (false, 1, 1)) (rInt_any 1 W (by decide) (by decide)))
  have HDv := hid (fun (W : World) (v1 : Value) (q1 : QNorm W v1 (false, 1, 1)) (hW : Below w.heap.size w W) => qopen (t := frinv t) (by
    have hx := rDiv_any v1 v (false, 1, 1) t A W q1 (h.below hW) (one_b hA1) (one_b hA1) hn hd (by omega) (by decide) h0 h1
    have e : frac ((false, 1, 1) : Bool × Nat × Nat).1 1 1 = frac false 1 1 := rfl
    have e2 : frac (((false, 1, 1) : Bool × Nat × Nat).1 != t.1) (((false, 1, 1) : Bool × Nat × Nat).2.1 * t.2.2) (((false, 1, 1) : Bool × Nat × Nat).2.2 * t.2.1) = frinv t := by unfold frinv; simp
    rw [e2] at hx
    exact hx))
  have hbd := frinv_bb hn hd
  have HPw := hid (fun (W : World) (v1 : Value) (q1 : QNorm W v1 (frinv t)) => qopen (t := fpow (frinv t) k) (rPowerPos_any v1 (frinv t) k W q1 (b_1000 hbd.1 hA) (b_1000 hbd.2 hA) hk (IsFr.inv (t := t) (by omega)).pos))
  have hneg : decide (0 < k) = true := decide_eq_true hk0
  have hwr : IntKind.i64.wrap (k : Int) = k := by rw [IntKind.wrap_i64]; omega
  clear hn hd hA hA1 h0 h1 hbd
  obtain ⟨vn1, vd1, rfl, ⟨p1, k1, c1, rfl, _⟩, ⟨p2, k2, c2, rfl, _⟩⟩ := h
  obtain ⟨s1, hs⟩ : ∃ s, s = t.1 := ⟨_, rfl⟩
  rw [← hs] at HDv ⊢
  clear hs
  obtain ⟨t1, h1⟩ : ∃ s, s = frinv t := ⟨_, rfl⟩
  rw [← h1] at HDv HPw ⊢
  clear h1
  obtain ⟨t2, h1⟩ : ∃ s, s = fpow t1 k := ⟨_, rfl⟩
  rw [← h1] at HPw ⊢
  clear h1
  have hal := below_alloc2 w (.cells #[.bool s1, .slice p1 k1 c1, .slice p2 k2 c2] 53) (.cells #[.bool false, .slice none 0 0, .slice none 0 0] 53)
  have hVa := (Var3.alloc w (x := .bool s1) (y := .slice p1 k1 c1) (z := .slice p2 k2 c2) 53 trivial trivial trivial).below ((Below.refl _ _).alloc (Nat.le_refl _) (.cells #[.bool false, .slice none 0 0, .slice none 0 0] 53))
  have hVr := Var3.alloc2 w (.cells #[.bool s1, .slice p1 k1 c1, .slice p2 k2 c2] 53) (x := .bool false) (y := .slice none 0 0) (z := .slice none 0 0) 53 trivial trivial trivial
  go_enter Tryz.func65, Tryz.ntmps65
  go_upto_region 1 with fail
  generalize (w.alloc (.cells #[.bool s1, .slice p1 k1 c1, .slice p2 k2 c2] 53)).alloc (.cells #[.bool false, .slice none 0 0, .slice none 0 0] 53) = W0 at *
  have hn1 : w.heap.size + 1 ≤ W0.heap.size := by obtain ⟨_, h0, _⟩ := hVr; exact Nat.le_of_lt (Array.getElem?_eq_some_iff.1 h0).1
  have HV := hid (And.intro hVr hal)
  have HS : Hid (∀ w', Below (w.heap.size + 1) W0 w' → (w'.cell? ⟨w.heap.size, 0, none⟩ = some (.bool s1) ∧ w'.cell? ⟨w.heap.size, 1, none⟩ = some (.slice p1 k1 c1) ∧ w'.cell? ⟨w.heap.size, 2, none⟩ = some (.slice p2 k2 c2) ∧ Hid (Below (w.heap.size + 1) W0 w'))) :=
    hid fun w' hb => ⟨(bcellN hb _ _ (by omega)).trans hVa.cells.1, (bcellN hb _ _ (by omega)).trans hVa.cells.2.1, (bcellN hb _ _ (by omega)).trans hVa.cells.2.2.1, hid hb⟩
  clear hVr hVa hal
  go_wp2_with fail
  go_region_held3 (fun w' => w'.cell? ⟨w.heap.size, 0, none⟩ = some (.bool s1) ∧ w'.cell? ⟨w.heap.size, 1, none⟩ = some (.slice p1 k1 c1) ∧ w'.cell? ⟨w.heap.size, 2, none⟩ = some (.slice p2 k2 c2) ∧ Hid (Below (w.heap.size + 1) W0 w'))
    (first | exact HS.out _ (Below.refl _ _).drew | (exact HS.out _ (by assumption)) | exact HS.out _ (below_set3 (by assumption) (Nat.le_refl _)))
    (first
      | (go_at_call 68; refine (HI.out _).mono ?_; rintro e wa ⟨s3, p3, k3, c3, p4, k4, c4, rfl, hQ1, hBa⟩; have hKa := held_any (by first | assumption | exact (Below.refl _ _).drew) hBa; have hKa2 := below_pre hKa hn1)
      | (go_at_call 102; refine (HDv.out _ _ hQ1.out (HV.out.2.trans ((held3' (N := w.heap.size + 1) (W0 := W0) (by assumption)).mono (by omega)))).mono ?_; rintro e wb ⟨s5, p5, k5, c5, p6, k6, c6, rfl, hQ2, hBb⟩; have hKb := held_any hKa hBb; have hKb2 := below_pre hKb hn1)
      | (go_at_call 65; (try rw [hwr]); refine (HPw.out _ _ hQ2.out).mono ?_; rintro e wf ⟨sg, pa, ka, ca, pb, kb, cb, rfl, HF, hBf⟩; have hKf := held_any hKb hBf; have hKf2 := below_pre hKf hn1; obtain ⟨x0, x1, x2, y0, y1, y2⟩ := (HV.out.1.below hKf).cells))
  rename_i hHeld
  clear hHeld
  go_wp2_with fail
  exact rPower_ret rfl ((HV.out.1.below hKf).store trivial trivial trivial) ⟨_, rfl, HF.out.store3 (HV.out.1.below hKf) _ _ _, below_set3 (HV.out.2.trans (hKf.mono HV.out.2.size)) (Nat.le_succ _)⟩

theorem rPower_any (v : Value) (t : Bool × Nat × Nat) (n : Int) (A : Nat) (w : World) (h : QNorm w v t) (hn : t.2.1 < B16 ^ A) (hd : t.2.2 < B16 ^ A) (hA : A ≤ 1000) (hA1 : 1 ≤ A) (h0 : 0 < t.2.2) (hc : powc t n = 0) :
    Calls Tryz.prog 65 #[v, .int .i64 n] w fun e w' => ∃ v', e = .returned v' ∧ QNorm w' v' (powr t n) ∧ Below w.heap.size w w' := by
  unfold powc at hc
  split at hc
  · exact absurd hc (by decide)
  · rename_i hr
    split at hc
    · exact absurd hc (by decide)
    · rename_i hz
      unfold powr
      by_cases h3 : n < 0
      · obtain ⟨k, rfl⟩ : ∃ k : Nat, n = -(k : Int) := ⟨n.natAbs, by omega⟩
        rw [if_pos h3, show (-(k : Int)).natAbs = k by omega]
        exact rPowerNeg_any v t k A w h hn hd hA hA1 (by omega) (by omega) h0 (Nat.pos_of_ne_zero fun h => hz ⟨h3, h⟩)
      · obtain ⟨k, rfl⟩ : ∃ k : Nat, n = (k : Int) := ⟨n.natAbs, by omega⟩
        rw [if_neg h3, show ((k : Int)).natAbs = k by omega]
        exact rPowerPos_any v t k w h (b_1000 hn hA) (b_1000 hd hA) (by omega) h0

end Go.Proofs.YtjnfnngobkjneaaGreatDoor
