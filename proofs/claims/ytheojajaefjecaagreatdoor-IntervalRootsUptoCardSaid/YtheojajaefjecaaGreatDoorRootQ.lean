/- Powers of natural numbers, in the specification. The number of binary digits, in the specification. Roots of natural numbers, in the specification. -/
import Derived.Test.YtheojajaefjecaaGreatDoorGrtM
import Derived.Test.YtheojajaefjecaaGreatDoorLawD
import Derived.Test.YtheojajaefjecaaGreatDoorRootH
set_option maxHeartbeats 8000000
set_option maxRecDepth 100000
namespace Go.Proofs.YtheojajaefjecaaGreatDoor
open Go.RowKit Dg
open List (setIfInBounds_toArray set_cons_zero set_cons_succ)
theorem pow_B {x A m : Nat} (hx : x < B16 ^ A) : x ^ m < B16 ^ (A * m + 1) := by
 have h1 : x ^ m ≤ (B16 ^ A) ^ m := Nat.pow_le_pow_left (Nat.le_of_lt hx) m
 rw [← Nat.pow_mul] at h1
 exact Nat.lt_of_le_of_lt h1 (Nat.pow_lt_pow_right (by decide) (Nat.lt_succ_self _))
theorem pow_Bb {x A m : Nat} (hx : x < B16 ^ A) (hA : A ≤ 1000) (hm : m ≤ 256) : x ^ m < B16 ^ 300000 := by
 have h := pow_B (m := m) hx
 have hk : A * m + 1 ≤ 300000 := by have : A * m ≤ 1000 * 256 := Nat.mul_le_mul hA hm; omega
 generalize 300000 = k at *
 exact b_bigk h hk
theorem NatPow_any (va : Value) (x n A : Nat) (w : World) (ha : Rep B16 w va x) (hx : x < B16 ^ A) (hA : A ≤ 1000) (hn : n < 256) :
  Calls Tryz.prog 188 #[va, .int .i64 n] w fun e w' => ∃ v, e = .returned v ∧ Rep B16 w' v (x ^ n) ∧ Below w.heap.size w w' := by
 have HA := hid ha
 have HX := hid (And.intro hx hA)
 have HOf := hid (NatOf_any 1 w (by decide))
 clear ha hx hA
 go_enter Tryz.func188, Tryz.ntmps188
 go_wp2_with fail
 refine HOf.out.mono ?_
 rintro e w1 ⟨v1, rfl, hR1, hB1⟩
 clear HOf
 go_wp2_with fail
 go_loopw [5, 8] (fun v i wr => ∃ k : Nat, k ≤ n ∧ i = .int .i64 (k : Int) ∧ Rep B16 wr v (x ^ k) ∧ Below w.heap.size w wr) (fun _ i _ => n - (intOf i).toNat)
 case atStart => exact ⟨0, Nat.zero_le _, rfl, by rw [Nat.pow_zero]; exact hR1, hB1⟩
 case round =>
  obtain ⟨k, hk, rfl, hR, hB⟩ := hrel
  by_cases hlt : k < n
  ·have HM := hid (NatMul_any u5 va (x ^ k) x wr hR (HA.out.below hB) (b_big (pow_Bb HX.out.1 HX.out.2 (show k ≤ 256 by omega)) (by omega)) (b_big HX.out.1 (by have := HX.out.2; omega)))
   have HB := hid hB
   clear hR hB hR1 hB1
   go_wp2_with fail
   refine HM.out.mono ?_
   rintro e w2 ⟨v2, rfl, hR2, hB2⟩
   rw [← Nat.pow_succ] at hR2
   have HR2 := hid (And.intro hR2 (HB.out.trans (hB2.mono HB.out.size)))
   clear hR2 hB2
   go_wp2_with fail
   go_roundw
   case rel => exact ⟨k + 1, by omega, by go_num, HR2.out.1, HR2.out.2⟩
   case measure => simp [intOf]; omega
  ·obtain rfl : k = n := by omega
   have HR := hid (And.intro hR hB)
   clear hR hB hR1 hB1
   go_wp2_with fail
   go_ret
   exact ⟨_, rfl, HR.out.1, HR.out.2⟩
theorem rPower_ret {W : World} {B : Nat} {x y z : Value} {tm : Array Value} {R : Ending → World → Prop} (h2 : tm[4]?.getD undef = .pointer (some ⟨B, 0, none⟩)) (hV : Var3 W B x y z) (hR : R (.returned (.agg #[x, y, z])) W) :
  bodyPost Tryz.prog Tryz.f132 R .ret { tmps := tm, defers := [] } W := by
 obtain ⟨c0, c1, c2, _, _, _⟩ := hV.cells
 exact bodyPost_ret (v := .agg #[x, y, z]) (by simp [results, Tryz.results132, go_sem, h2, c0, c1, c2]) rfl hR
theorem rPowerPos_any (v : Value) (t : Bool × Nat × Nat) (k : Nat) (w : World) (h : QNorm w v t) (hn : t.2.1 < B16 ^ 1000) (hd : t.2.2 < B16 ^ 1000) (hk : k < 256) (h0 : 0 < t.2.2) :
  Calls Tryz.prog 132 #[v, .int .i64 (k : Int)] w fun e w' => ∃ v', e = .returned v' ∧ QNorm w' v' (fpow t k) ∧ Below w.heap.size w w' := by
 have HDa := hid (fun (W : World) (hW : Below w.heap.size w W) => den_any v t.1 t.2.1 t.2.2 W (h.below hW))
 rw [den1_self h0] at HDa
 obtain ⟨vn1, vd1, rfl, hrn, hrd⟩ := h
 have HPn := hid (fun (W : World) (hW : Below w.heap.size w W) => NatPow_any vn1 t.2.1 k 1000 W (hrn.below hW) hn (Nat.le_refl _) hk)
 have HPd := hid (fun (W : World) (v1 : Value) (h1 : Rep B16 W v1 t.2.2) => NatPow_any v1 t.2.2 k 1000 W h1 hd (Nat.le_refl _) hk)
 obtain ⟨b, hb⟩ : ∃ b, b = decide (k % 2 = 1) := ⟨_, rfl⟩
 have ho1 : ((k : Int) % 2 == 1) = b := by
  rw [hb]
  by_cases h : k % 2 = 1
  ·rw [decide_eq_true h, show (k : Int) % 2 = 1 by omega]; rfl
  ·rw [decide_eq_false h, show (k : Int) % 2 = 0 by omega]; rfl
 have ho2 : (Int.tmod (k : Int) 2 == 1) = b := by rw [Int.tmod_eq_emod_of_nonneg (by omega)]; exact ho1
 have hneg : decide ((k : Int) < 0) = false := decide_eq_false (by omega)
 show Calls _ _ _ _ fun e w' => ∃ v', e = .returned v' ∧ QNorm w' v' (t.1 && decide (k % 2 = 1), t.2.1 ^ k, t.2.2 ^ k) ∧ Below w.heap.size w w'
 rw [← hb]
 clear hn hd hk hb h0
 obtain ⟨N, hN⟩ : ∃ b, b = t.2.1 ^ k := ⟨_, rfl⟩
 obtain ⟨D, hD⟩ : ∃ b, b = t.2.2 ^ k := ⟨_, rfl⟩
 rw [← hN] at HPn ⊢
 rw [← hD] at HPd ⊢
 clear hN hD
 obtain ⟨p1, k1, c1, rfl, _⟩ := hrn
 obtain ⟨p2, k2, c2, rfl, _⟩ := hrd
 obtain ⟨s1, hs1⟩ : ∃ s, s = t.1 := ⟨_, rfl⟩
 rw [← hs1] at HDa ⊢
 clear hs1
 have hal := below_alloc2 w (.cells #[.bool s1, .slice p1 k1 c1, .slice p2 k2 c2] 47) (.cells #[.bool false, .slice none 0 0, .slice none 0 0] 47)
 have hVa := (Var3.alloc w (x := .bool s1) (y := .slice p1 k1 c1) (z := .slice p2 k2 c2) 47 trivial trivial trivial).below ((Below.refl _ _).alloc (Nat.le_refl _) (.cells #[.bool false, .slice none 0 0, .slice none 0 0] 47))
 have hVr := Var3.alloc2 w (.cells #[.bool s1, .slice p1 k1 c1, .slice p2 k2 c2] 47) (x := .bool false) (y := .slice none 0 0) (z := .slice none 0 0) 47 trivial trivial trivial
 go_enter Tryz.func132, Tryz.ntmps132
 go_upto_region 1 with fail
 generalize (w.alloc (.cells #[.bool s1, .slice p1 k1 c1, .slice p2 k2 c2] 47)).alloc (.cells #[.bool false, .slice none 0 0, .slice none 0 0] 47) = W0 at *
 have hn1 : w.heap.size + 1 ≤ W0.heap.size := by obtain ⟨_, h0, _⟩ := hVr; exact Nat.le_of_lt (Array.getElem?_eq_some_iff.1 h0).1
 have HV := hid (And.intro hVr hal)
 have HB0 := hid hal
 obtain ⟨a0, a1, a2, _⟩ := id hVa.cells
 have HS : Hid (∀ w', Below (w.heap.size + 1) W0 w' → (w'.cell? ⟨w.heap.size, 0, none⟩ = some (.bool s1) ∧ w'.cell? ⟨w.heap.size, 1, none⟩ = some (.slice p1 k1 c1) ∧ w'.cell? ⟨w.heap.size, 2, none⟩ = some (.slice p2 k2 c2) ∧ Hid (Below (w.heap.size + 1) W0 w'))) :=
  hid fun w' hb => ⟨(bcellN hb _ _ (by omega)).trans hVa.cells.1, (bcellN hb _ _ (by omega)).trans hVa.cells.2.1, (bcellN hb _ _ (by omega)).trans hVa.cells.2.2.1, hid hb⟩
 clear hVr hVa hal
 go_wp2_with fail
 cases s1
 ·refine wp_region_held_drew (S := fun w' => w'.cell? ⟨w.heap.size, 0, none⟩ = some (.bool false) ∧ w'.cell? ⟨w.heap.size, 1, none⟩ = some (.slice p1 k1 c1) ∧ w'.cell? ⟨w.heap.size, 2, none⟩ = some (.slice p2 k2 c2) ∧ Hid (Below (w.heap.size + 1) W0 w')) (by kernel_rfl) (HS.out _ (Below.refl _ _).drew) (fun hHeld => ?_)
  refine wpAnyH_take (i := 0) (oi := { dst := some 13, op := Op.fieldAddr 47 (Operand.tmp 2) 0, type := 0, pos := "ref.go:215", after := #[], guard := none }) (v := ?v0) rfl (by kernel_rfl) (by kernel_rfl) (by kernel_rfl) (fun _ _ _ h => h) (Or.inl ⟨by rfl, ?hy0⟩) (by assumption) ?_
  case hy0 => (intro w hSw; (try dsimp only at hSw); go_simp; (try (with_reducible rfl)))
  try simp only [Act.put, setIfInBounds_toArray, set_cons_zero, set_cons_succ]
  refine wpAnyH_take (i := 1) (oi := { dst := some 14, op := Op.load 4 (Operand.tmp 13), type := 4, pos := "ref.go:215", after := #[{ on := 0, ground := Ground.data }], guard := none }) (v := ?v1) rfl (by kernel_rfl) (by kernel_rfl) (by kernel_rfl) (fun _ _ _ h => h) (Or.inl ⟨by rfl, ?hy1⟩) (by assumption) ?_
  case hy1 => (intro w hSw; (try dsimp only at hSw); go_simp; (try (with_reducible rfl)))
  try simp only [Act.put, setIfInBounds_toArray, set_cons_zero, set_cons_succ]
  refine wpAnyH_take (i := 2) (oi := { dst := some 15, op := Op.move (Operand.tmp 14), type := 4, pos := "ref.go:215", after := #[{ on := 1, ground := Ground.data }], guard := none }) (v := ?v2) rfl (by kernel_rfl) (by kernel_rfl) (by kernel_rfl) (fun _ _ _ h => h) (Or.inl ⟨by rfl, ?hy2⟩) (by assumption) ?_
  case hy2 => (intro w hSw; (try dsimp only at hSw); go_simp; (try (with_reducible rfl)))
  try simp only [Act.put, setIfInBounds_toArray, set_cons_zero, set_cons_succ]
  refine wpAnyH_take (i := 3) (oi := { dst := some 16, op := Op.move (Operand.tmp 1), type := 3, pos := "ref.go:215", after := #[{ on := 2, ground := Ground.guard }], guard := some (2, true) }) (v := undef) rfl (by kernel_rfl) (by kernel_rfl) (by kernel_rfl) (fun _ _ _ h => h) (Or.inr ⟨by rfl, rfl⟩) (by assumption) ?_
  try simp only [Act.put, setIfInBounds_toArray, set_cons_zero, set_cons_succ]
  refine wpAnyH_take (i := 4) (oi := { dst := some 17, op := Op.binOp BinOp.rem 3 (Operand.tmp 16) (Operand.const (Value.int IntKind.i64 2)) 3, type := 3, pos := "ref.go:215", after := #[{ on := 3, ground := Ground.data }, { on := 2, ground := Ground.guard }], guard := some (2, true) }) (v := undef) rfl (by kernel_rfl) (by kernel_rfl) (by kernel_rfl) (fun _ _ _ h => h) (Or.inr ⟨by rfl, rfl⟩) (by assumption) ?_
  try simp only [Act.put, setIfInBounds_toArray, set_cons_zero, set_cons_succ]
  refine wpAnyH_take (i := 5) (oi := { dst := some 18, op := Op.binOp BinOp.eql 3 (Operand.tmp 17) (Operand.const (Value.int IntKind.i64 1)) 3, type := 4, pos := "ref.go:215", after := #[{ on := 4, ground := Ground.data }, { on := 2, ground := Ground.guard }], guard := some (2, true) }) (v := undef) rfl (by kernel_rfl) (by kernel_rfl) (by kernel_rfl) (fun _ _ _ h => h) (Or.inr ⟨by rfl, rfl⟩) (by assumption) ?_
  try simp only [Act.put, setIfInBounds_toArray, set_cons_zero, set_cons_succ]
  refine wpAnyH_take (i := 6) (oi := { dst := some 19, op := Op.pick (Operand.tmp 15) (Operand.tmp 18) (Operand.const (Value.bool false)), type := 4, pos := "ref.go:215", after := #[{ on := 2, ground := Ground.data }, { on := 5, ground := Ground.data }], guard := none }) (v := ?v6) rfl (by kernel_rfl) (by kernel_rfl) (by kernel_rfl) (fun _ _ _ h => h) (Or.inl ⟨by rfl, ?hy6⟩) (by assumption) ?_
  case hy6 => (intro w hSw; (try dsimp only at hSw); go_simp; (try (with_reducible rfl)))
  try simp only [Act.put, setIfInBounds_toArray, set_cons_zero, set_cons_succ]
  refine wpAnyH_take (i := 7) (oi := { dst := some 20, op := Op.fieldAddr 47 (Operand.tmp 2) 1, type := 0, pos := "ref.go:215", after := #[], guard := none }) (v := ?v7) rfl (by kernel_rfl) (by kernel_rfl) (by kernel_rfl) (fun _ _ _ h => h) (Or.inl ⟨by rfl, ?hy7⟩) (by assumption) ?_
  case hy7 => (intro w hSw; (try dsimp only at hSw); go_simp; (try (with_reducible rfl)))
  try simp only [Act.put, setIfInBounds_toArray, set_cons_zero, set_cons_succ]
  refine wpAnyH_take (i := 8) (oi := { dst := some 21, op := Op.load 45 (Operand.tmp 20), type := 45, pos := "ref.go:215", after := #[{ on := 7, ground := Ground.data }], guard := none }) (v := ?v8) rfl (by kernel_rfl) (by kernel_rfl) (by kernel_rfl) (fun _ _ _ h => h) (Or.inl ⟨by rfl, ?hy8⟩) (by assumption) ?_
  case hy8 => (intro w hSw; (try dsimp only at hSw); go_simp; (try (with_reducible rfl)))
  try simp only [Act.put, setIfInBounds_toArray, set_cons_zero, set_cons_succ]
  refine wpAnyH_take (i := 9) (oi := { dst := some 22, op := Op.move (Operand.tmp 1), type := 3, pos := "ref.go:215", after := #[], guard := none }) (v := ?v9) rfl (by kernel_rfl) (by kernel_rfl) (by kernel_rfl) (fun _ _ _ h => h) (Or.inl ⟨by rfl, ?hy9⟩) (by assumption) ?_
  case hy9 => (intro w hSw; (try dsimp only at hSw); go_simp; (try (with_reducible rfl)))
  try simp only [Act.put, setIfInBounds_toArray, set_cons_zero, set_cons_succ]
  refine wpAnyH_take (i := 11) (oi := { dst := some 24, op := Op.load 47 (Operand.tmp 2), type := 47, pos := "ref.go:215", after := #[], guard := none }) (v := ?v11) rfl (by kernel_rfl) (by kernel_rfl) (by kernel_rfl) (fun _ _ _ h => h) (Or.inl ⟨by rfl, ?hy11⟩) (by assumption) ?_
  case hy11 => (intro w hSw; (try dsimp only at hSw); go_simp; (try (with_reducible rfl)))
  try simp only [Act.put, setIfInBounds_toArray, set_cons_zero, set_cons_succ]
  refine wpAnyH_take (i := 13) (oi := { dst := some 26, op := Op.move (Operand.tmp 1), type := 3, pos := "ref.go:215", after := #[], guard := none }) (v := ?v13) rfl (by kernel_rfl) (by kernel_rfl) (by kernel_rfl) (fun _ _ _ h => h) (Or.inl ⟨by rfl, ?hy13⟩) (by assumption) ?_
  case hy13 => (intro w hSw; (try dsimp only at hSw); go_simp; (try (with_reducible rfl)))
  try simp only [Act.put, setIfInBounds_toArray, set_cons_zero, set_cons_succ]
  refine wpAnyH_ready (rs := [10]) (by kernel_rfl) (by simp) ?_
  refine AllReadyH.cons (o := { dst := some 23, op := Op.call { callee := Callee.value (Operand.func 188), args := #[Operand.tmp 21, Operand.tmp 22], argTypes := #[45, 3] }, type := 45, pos := "ref.go:215", after := #[{ on := 8, ground := Ground.data }, { on := 9, ground := Ground.data }, { on := 2, ground := Ground.chain }], guard := none }) rfl (fun K hK => ?_) AllReadyH.nil
  go_simp
  refine (HPn.out _ (HB0.out.trans ((held3' (N := w.heap.size + 1) (W0 := W0) hHeld).mono (by omega)))).mono ?_
  rintro e wa ⟨v6, rfl, hRa, hBa⟩
  have hKa := held_any (W0 := W0) (Below.refl _ _).drew hBa
  have hKa2 := below_pre hKa hn1
  obtain ⟨p6, k6, c6, rfl, hx6⟩ := id hRa
  clear hx6 hHeld
  try go_wp2_with fail
  refine hK.out _ _ ?_ (fun hHeld => ?_)
  ·exact HS.out _ hKa2
  clear hK K
  try simp only [Act.put, setIfInBounds_toArray, set_cons_zero, set_cons_succ]
  refine wpAnyH_ready (rs := [12]) (by kernel_rfl) (by simp) ?_
  refine AllReadyH.cons (o := { dst := some 25, op := Op.call { callee := Callee.value (Operand.func 97), args := #[Operand.tmp 24], argTypes := #[47] }, type := 45, pos := "ref.go:215", after := #[{ on := 11, ground := Ground.data }, { on := 10, ground := Ground.chain }], guard := none }) rfl (fun K hK => ?_) AllReadyH.nil
  go_simp
  refine (HDa.out _ (HB0.out.trans (hKa.mono (by omega)))).mono ?_
  rintro e wc ⟨v8, rfl, hRc, hBc⟩
  have hKc := held_any hKa hBc
  have hKc2 := below_pre hKc hn1
  obtain ⟨p8, k8, c8, rfl, hx8⟩ := id hRc
  clear hx8 hHeld
  try go_wp2_with fail
  refine hK.out _ _ ?_ (fun hHeld => ?_)
  ·exact HS.out _ hKc2
  clear hK K
  try simp only [Act.put, setIfInBounds_toArray, set_cons_zero, set_cons_succ]
  refine wpAnyH_ready (rs := [14]) (by kernel_rfl) (by simp) ?_
  refine AllReadyH.cons (o := { dst := some 27, op := Op.call { callee := Callee.value (Operand.func 188), args := #[Operand.tmp 25, Operand.tmp 26], argTypes := #[45, 3] }, type := 45, pos := "ref.go:215", after := #[{ on := 12, ground := Ground.data }, { on := 13, ground := Ground.data }, { on := 12, ground := Ground.chain }], guard := none }) rfl (fun K hK => ?_) AllReadyH.nil
  go_simp
  refine (HPd.out _ _ hRc).mono ?_
  rintro e wb ⟨v7, rfl, hRb, hBb⟩
  have hKb := held_any hKc hBb
  have hKb2 := below_pre hKb hn1
  obtain ⟨p7, k7, c7, rfl, hx7⟩ := id hRb
  clear hx7 hHeld
  obtain ⟨x0, x1, x2, y0, y1, y2⟩ := (HV.out.1.below hKb).cells
  try go_wp2_with fail
  refine hK.out _ _ ?_ (fun hHeld => ?_)
  ·exact HS.out _ hKb2
  clear hK K
  try simp only [Act.put, setIfInBounds_toArray, set_cons_zero, set_cons_succ]
  refine wpAnyH_take (i := 15) (oi := { dst := some 28, op := Op.build 47 #[(0, Operand.tmp 19), (1, Operand.tmp 23), (2, Operand.tmp 27)], type := 47, pos := "ref.go:215", after := #[{ on := 6, ground := Ground.data }, { on := 10, ground := Ground.data }, { on := 14, ground := Ground.data }], guard := none }) (v := ?v15) rfl (by kernel_rfl) (by kernel_rfl) (by kernel_rfl) (fun _ _ _ h => h) (Or.inl ⟨by rfl, ?hy15⟩) (by assumption) ?_
  case hy15 => (intro w hSw; (try dsimp only at hSw); go_simp; (try (with_reducible rfl)))
  try simp only [Act.put, setIfInBounds_toArray, set_cons_zero, set_cons_succ]
  refine wpAnyH_ready (rs := [16]) (by kernel_rfl) (by simp) ?_
  refine AllReadyH.cons (o := { dst := none, op := Op.store 47 (Operand.tmp 4) (Operand.tmp 28), type := 0, pos := "ref.go:215", after := #[{ on := 15, ground := Ground.data }, { on := 14, ground := Ground.chain }, { on := 0, ground := Ground.phase }, { on := 1, ground := Ground.phase }, { on := 2, ground := Ground.phase }, { on := 3, ground := Ground.phase }, { on := 4, ground := Ground.phase }, { on := 5, ground := Ground.phase }, { on := 6, ground := Ground.phase }, { on := 7, ground := Ground.phase }, { on := 8, ground := Ground.phase }, { on := 9, ground := Ground.phase }, { on := 10, ground := Ground.phase }, { on := 11, ground := Ground.phase }, { on := 12, ground := Ground.phase }, { on := 13, ground := Ground.phase }, { on := 14, ground := Ground.phase }, { on := 15, ground := Ground.phase }], guard := none }) rfl (fun K hK => ?_) AllReadyH.nil
  go_simp
  try go_wp2_with fail
  refine hK.out _ _ ?_ (fun hHeld => ?_)
  ·exact HS.out _ (below_set3 hKb2 (Nat.le_refl _))
  clear hK K
  try simp only [Act.put, setIfInBounds_toArray, set_cons_zero, set_cons_succ]
  refine wpAnyH_done (by kernel_rfl) ?_ _
  have HVb := HV.out.1.below hKb
  go_wp2_with fail
  exact rPower_ret rfl (HVb.store trivial trivial trivial) ⟨_, rfl, ⟨_, _, rfl, ((hRa.below hBc).below hBb).store3 HVb _ _ _, hRb.store3 HVb _ _ _⟩, below_set3 (HV.out.2.trans (hKb.mono (by omega))) (Nat.le_succ _)⟩
 ·cases b
  all_goals
   go_region_held3 (fun w' => w'.cell? ⟨w.heap.size, 0, none⟩ = some (.bool true) ∧ w'.cell? ⟨w.heap.size, 1, none⟩ = some (.slice p1 k1 c1) ∧ w'.cell? ⟨w.heap.size, 2, none⟩ = some (.slice p2 k2 c2) ∧ Hid (Below (w.heap.size + 1) W0 w'))
    (first | exact HS.out _ (Below.refl _ _).drew | (exact HS.out _ (by assumption)) | exact HS.out _ (below_set3 (by assumption) (Nat.le_refl _)))
    (first
     | (go_at_call_of 188 k1; refine (HPn.out _ (HB0.out.trans ((held3' (N := w.heap.size + 1) (W0 := W0) (by assumption)).mono (by omega)))).mono ?_; rintro e wa ⟨v6, rfl, hRa, hBa⟩; have hKa := held_any (by first | assumption | exact (Below.refl _ _).drew) hBa; have hKa2 := below_pre hKa hn1; obtain ⟨p6, k6, c6, rfl, hx6⟩ := id hRa; clear hx6)
     | (go_at_call 97; refine (HDa.out _ (HB0.out.trans ((held3' (N := w.heap.size + 1) (W0 := W0) (by assumption)).mono (by omega)))).mono ?_; rintro e wc ⟨v8, rfl, hRc, hBc⟩; have hKc := held_any hKa hBc; have hKc2 := below_pre hKc hn1; obtain ⟨p8, k8, c8, rfl, hx8⟩ := id hRc; clear hx8)
     | (go_at_call_of 188 k8; refine (HPd.out _ _ hRc).mono ?_; rintro e wb ⟨v7, rfl, hRb, hBb⟩; have hKb := held_any hKc hBb; have hKb2 := below_pre hKb hn1; obtain ⟨p7, k7, c7, rfl, hx7⟩ := id hRb; clear hx7; obtain ⟨x0, x1, x2, y0, y1, y2⟩ := (HV.out.1.below hKb).cells))
   rename_i hHeld
   clear hHeld
   have HVb := HV.out.1.below hKb
   go_wp2_with fail
   exact rPower_ret rfl (HVb.store trivial trivial trivial) ⟨_, rfl, ⟨_, _, rfl, ((hRa.below hBc).below hBb).store3 HVb _ _ _, hRb.store3 HVb _ _ _⟩, below_set3 (HV.out.2.trans (hKb.mono (by omega))) (Nat.le_succ _)⟩
theorem b_1000 {x a : Nat} (h : x < B16 ^ a) (ha : a ≤ 1000) : x < B16 ^ 1000 := by
 generalize 1000 = b at *
 exact b_bigk h ha
end Go.Proofs.YtheojajaefjecaaGreatDoor

namespace Go.Proofs.YtheojajaefjecaaGreatDoor
open Go.RowKit Dg
theorem exists_len2 (x : Nat) : ∃ b, Len 2 x b := by
 induction x using Nat.strongRecOn with
 | _ x ih =>
  by_cases h : x = 0
  ·exact ⟨0, by subst h; exact Len.zero⟩
  ·obtain ⟨b, hb⟩ := ih (x / 2) (by omega)
   refine ⟨b + 1, ?_, fun _ => ?_⟩
   ·have h1 := hb.1
    rw [Nat.pow_succ]
    omega
   ·rw [Nat.add_sub_cancel]
    rcases Nat.eq_zero_or_pos b with h0 | h0
    ·subst h0; rw [Nat.pow_zero]; omega
    ·have h2 := hb.2 h0
     obtain ⟨c, rfl⟩ : ∃ c, b = c + 1 := ⟨b - 1, by omega⟩
     rw [Nat.add_sub_cancel] at h2
     rw [Nat.pow_succ]
     omega
theorem B16_pow2 (j : Nat) : B16 ^ j = 2 ^ (16 * j) := by rw [Nat.pow_mul]; rfl
theorem bits_top {x k c : Nat} (hl : Len B16 x (k + 1)) (hc : Len 2 (dg B16 x k) c) : Len 2 x (16 * k + c) := by
 have e : dg B16 x k = x / B16 ^ k := dg_top hl.1
 rw [e] at hc
 have hP : 0 < B16 ^ k := Nat.pow_pos B16_pos
 have hx : x / B16 ^ k ≠ 0 := by rw [← e]; exact hl.top B16_pos (by omega)
 have hc0 : 0 < c := by
  rcases Nat.eq_zero_or_pos c with h | h
  ·subst h; have := hc.eq_zero; omega
  ·exact h
 constructor
 ·have h1 : x < B16 ^ k * 2 ^ c := by
   have h2 := Nat.lt_div_mul_add (a := x) hP
   have h3 : (x / B16 ^ k + 1) * B16 ^ k ≤ 2 ^ c * B16 ^ k := Nat.mul_le_mul_right _ hc.1
   rw [Nat.add_mul, Nat.one_mul] at h3
   rw [Nat.mul_comm (B16 ^ k)]
   omega
  rw [Nat.pow_add, ← B16_pow2]
  exact h1
 ·intro _
  have h2 := hc.2 hc0
  have h3 : B16 ^ k * 2 ^ (c - 1) ≤ x := Nat.le_trans (Nat.mul_le_mul_left _ h2) (Nat.mul_div_le x _)
  rw [show 16 * k + c - 1 = 16 * k + (c - 1) by omega, Nat.pow_add, ← B16_pow2]
  exact h3
set_option maxHeartbeats 2000000 in
set_option maxRecDepth 100000 in
theorem NatBits_any (v : Value) (x b : Nat) (w : World) (h : Rep B16 w v x) (hx : x < B16 ^ 1000000000) (hb : Len 2 x b) :
  Calls Tryz.prog 196 #[v] w fun e w' => e = .returned (.int .i64 b) ∧ w = w' := by
 obtain ⟨p, n, cap, rfl, hnc, hl, hs⟩ := h
 have hn := hl.le B16_pos hx
 by_cases h0 : n = 0
 ·subst h0
  have hx0 := hl.eq_zero
  subst hx0
  obtain rfl : b = 0 := Len.unique (by decide) hb Len.zero
  clear hb hl hs hx
  go_enter Tryz.func196, Tryz.ntmps196
  go_wp2_with fail
  go_ret
  exact ⟨rfl, rfl⟩
 ·obtain ⟨k, rfl⟩ : ∃ k, n = k + 1 := ⟨n - 1, by omega⟩
  obtain ⟨b0, o0, rfl, hc⟩ := hs (by omega)
  have hc0 := hc k (by omega)
  have hd := dg_16 x k
  have HB := hid (fun c (h : Len 2 (dg B16 x k) c) => Len.unique (B := 2) (by decide) hb (bits_top hl h))
  have e1 : (((k + 1 : Nat)) : Int) - 1 = (k : Int) := by omega
  have hf : (((k + 1 : Nat) : Int) == 0) = false := by simp; omega
  clear hb hl hs hc hx
  generalize dg B16 x k = d at *
  obtain ⟨N, hN⟩ : ∃ N, N = k + 1 := ⟨_, rfl⟩
  rw [← hN] at e1 hf hn hnc h0 ⊢
  clear hN
  go_enter Tryz.func196, Tryz.ntmps196
  go_wp2_with fail
  go_loopw [3, 4] (fun nv xv wr => ∃ c : Nat, nv = .int .i64 ((16 * k + c : Nat) : Int) ∧ xv = .int .u32 ((d / 2 ^ c : Nat) : Int) ∧ (0 < c → 2 ^ (c - 1) ≤ d) ∧ c ≤ 16 ∧ wr = w) (fun _ xv _ => (intOf xv).toNat)
  case atStart => exact ⟨0, by go_num, by rw [Nat.pow_zero, Nat.div_one], fun h => absurd h (by omega), by omega, rfl⟩
  case round =>
   obtain ⟨c, rfl, rfl, h1, h2, rfl⟩ := hrel
   by_cases hz : d / 2 ^ c = 0
   ·have hdl : d < 2 ^ c := (Nat.div_eq_zero_iff_lt (Nat.pow_pos (by decide))).1 hz
    have hbe := HB.out c ⟨hdl, h1⟩
    rw [hz]
    subst hbe
    clear hdl hz h1 hd HB
    go_wp2_with fail
    go_ret
    exact ⟨rfl, rfl⟩
   ·have hge : 2 ^ c ≤ d := by
     rcases Nat.lt_or_ge d (2 ^ c) with h | h
     ·exact absurd (Nat.div_eq_of_lt h) hz
     ·exact h
    have hc16 : c < 16 := by
     rcases Nat.lt_or_ge c 16 with h | h
     ·exact h
     ·have h5 : 2 ^ 16 ≤ 2 ^ c := Nat.pow_le_pow_right (by decide) h
      have h6 : (2 : Nat) ^ 16 = 65536 := by decide
      omega
    have hnx : d / 2 ^ c / 2 = d / 2 ^ (c + 1) := by rw [Nat.div_div_eq_div_mul, Nat.pow_succ]
    have hqd : d / 2 ^ c < 65536 := Nat.lt_of_le_of_lt (Nat.div_le_self _ _) hd
    have HN := hid (And.intro hnx (And.intro hge hc16))
    clear hnx hge h1
    generalize d / 2 ^ c = q at *
    have hgt : decide ((0 : Int) < (q : Int)) = true := decide_eq_true (by omega)
    have hu : IntKind.i64.wrap (((16 * k + c : Nat) : Int) + 1) = ((16 * k + (c + 1) : Nat) : Int) := by rw [IntKind.wrap_i64]; omega
    have hq2 : IntKind.u32.wrap ((q : Int) / 2) = ((q / 2 : Nat) : Int) := by rw [IntKind.wrap_u32]; omega
    go_wp2_with fail
    refine ⟨⟨c + 1, by go_num, ?_, fun _ => HN.out.2.1, by omega, trivial⟩, ?_⟩
    ·rw [← HN.out.1]; exact congrArg (Value.int .u32) (by omega)
    ·simp [intOf]; omega
end Go.Proofs.YtheojajaefjecaaGreatDoor

namespace Go.Proofs.YtheojajaefjecaaGreatDoor
open Go.RowKit Dg Rt
theorem dbl_B {x A : Nat} (h : x < B16 ^ A) : 2 * x < B16 ^ (A + 1) := by
 have h2 : 2 ≤ B16 := by rw [B16_val]; omega
 have h3 := Nat.mul_le_mul_right (B16 ^ A) h2
 rw [Nat.pow_succ, Nat.mul_comm (B16 ^ A)]
 omega
theorem len_small16 {x b A : Nat} (hl : Len 2 x b) (hx : x < B16 ^ A) : b ≤ 16 * A := by
 refine hl.le (by decide) ?_
 rw [Nat.pow_mul]
 exact hx
theorem lt_8w {x a : Nat} (h : x < B16 ^ a) (ha : a ≤ 800000000) : x < B16 ^ 800000000 := by
 generalize 800000000 = k at *
 exact b_bigk h ha
theorem nnext_bd16 {x m r A : Nat} (hx : x < B16 ^ A) (hr : r ≤ 2 * x) (hm : m < 8) : r * m < B16 ^ (A + 1) ∧ x / r ^ m < B16 ^ (A + 1) ∧ r * m + x / r ^ m < B16 ^ (A + 1) := by
 have h1 : r * m ≤ 2 * x * 7 := Nat.mul_le_mul hr (by omega)
 have h2 : x / r ^ m ≤ x := Nat.div_le_self _ _
 have h4 : 100 ≤ B16 := by rw [B16_val]; omega
 have h3 := Nat.mul_le_mul_right (B16 ^ A) h4
 rw [Nat.pow_succ, Nat.mul_comm (B16 ^ A)]
 generalize x / r ^ m = q at *
 generalize r * m = p at *
 omega
def QRootRel (w0 : World) (x n k : Nat) (v : Value) (wr : World) : Prop :=
 ∃ r : Nat, r ≤ k ∧ 0 < r ∧ r ≤ 2 * x ∧ Above x n r ∧ Rep B16 wr v r ∧ Below w0.heap.size w0 wr
set_option maxHeartbeats 4000000 in
set_option maxRecDepth 100000 in
theorem NatRoot_pos (va : Value) (x m A : Nat) (w : World) (ha : Rep B16 w va x) (hx : x < B16 ^ A) (hA : A ≤ 400) (hx0 : 0 < x) (hm : 0 < m) (hm8 : m < 8) :
  Calls Tryz.prog 139 #[va, .int .i64 ((m + 1 : Nat) : Int)] w fun e w' => ∃ v, e = .returned v ∧ Rep B16 w' v (nroot x (m + 1)) ∧ Below w.heap.size w w' := by
 have HA := hid (And.intro ha (And.intro hx hA))
 have HXP := hid (And.intro hx0 (And.intro hm hm8))
 have HOf := hid (NatOf_any 1 w (by decide))
 obtain ⟨b, hl⟩ := exists_len2 x
 have HBt := hid (fun (W : World) (hW : Below w.heap.size w W) => NatBits_any va x b W (ha.below hW) (b_big hx (by omega)) hl)
 have HL := hid (And.intro hl (len_small16 hl hx))
 have HAr := hid (start_arg (b := b) (m := m) (by have := HA.out.2.2; have := HL.out.2; omega) hm8)
 obtain ⟨p, k, c, rfl, _, hlk, _⟩ := ha
 have hk : 0 < k := by
  rcases Nat.eq_zero_or_pos k with h | h
  ·subst h; have := hlk.eq_zero; omega
  ·exact h
 have hk0 : ((k : Int) == 0) = false := by simp; omega
 have hm1 : decide ((m : Int) + 1 < 1) = false := decide_eq_false (by omega)
 clear hx hA hx0 hm hm8 hl hlk hk
 go_enter Tryz.func139, Tryz.ntmps139
 go_wp2_with fail
 refine HOf.out.mono ?_
 rintro e w1 ⟨v1, rfl, hR1, hB1⟩
 clear HOf
 go_wp2_with fail
 refine (HBt.out w1 hB1).mono ?_
 rintro e w' ⟨rfl, rfl⟩
 clear HBt
 go_wp2_with fail
 rw [HAr.out]
 clear HAr
 refine (NatShg_any v1 1 ((b + (m + 1) - 1) / (m + 1)) w1 hR1 (b_big (a := 1) (by decide) (by omega)) ?_).mono ?_
 ·have h1 := Nat.div_le_self (b + (m + 1) - 1) (m + 1)
  have h2 := HL.out.2
  have h3 := HA.out.2.2
  have h4 := HXP.out.2.2
  omega
 rintro e w2 ⟨v2, rfl, hR2, hB2⟩
 rw [Nat.one_mul] at hR2
 have HS : Hid (QRootRel w x (m + 1) (2 * x) v2 w2) := hid ⟨_, start_le HL.out.1 HXP.out.1 (Nat.succ_pos m), Nat.pow_pos (by omega), start_le HL.out.1 HXP.out.1 (Nat.succ_pos m), above_start (Nat.succ_pos m) HL.out.1.1, hR2, hB1.trans (hB2.mono hB1.size)⟩
 clear hR1 hB1 hR2 hB2 HL hk0 hm1
 go_wp2_with fail
 go_loopg [5] (2 * x) (fun k v wr => QRootRel w x (m + 1) k v wr)
 case atStart => exact HS.out
 case round =>
  clear HS
  obtain ⟨r, hk, hr0, hr2, hab, hR, hB⟩ := hrel
  have HQ := hid (And.intro hk (And.intro hr0 (And.intro hr2 hab)))
  have hrA : r < B16 ^ (A + 1) := Nat.lt_of_le_of_lt hr2 (dbl_B HA.out.2.1)
  have HP := hid (NatPow_any u5 r m (A + 1) wr hR hrA (by have := HA.out.2.2; omega) (by have := HXP.out.2.2; omega))
  have HRB := hid (And.intro hR (And.intro hB hrA))
  have hwm : wrap64 (m : Int) = m := by unfold wrap64; have := HXP.out.2.2; omega
  have hwu : IntKind.u64.wrap (m : Int) = m := by rw [IntKind.wrap_u64]; have := HXP.out.2.2; omega
  have hwv : IntKind.u64.wrap ((m : Int) + 1) = ((m + 1 : Nat) : Int) := by rw [IntKind.wrap_u64]; have := HXP.out.2.2; omega
  have HNB := hid (nnext_bd16 HA.out.2.1 HQ.out.2.2.1 HXP.out.2.2)
  clear hk hr0 hr2 hab hR hB hrA
  go_wp2_with fail
  refine HP.out.mono ?_
  rintro e w3 ⟨v3, rfl, hR3, hB3⟩
  clear HP
  have hB4 := HRB.out.2.1.trans (hB3.mono HRB.out.2.1.size)
  have HD := hid (NatDiv_any _ v3 x (r ^ m) w3 (HA.out.1.below hB4) hR3 (lt_8w HA.out.2.1 (by have := HA.out.2.2; omega)) (lt_8w (pow_Bb HRB.out.2.2 (by have := HA.out.2.2; omega) (by have := HXP.out.2.2; omega)) (by omega)) (Nat.pow_pos HQ.out.2.1))
  have HB3 := hid (And.intro hB4 (HRB.out.1.below hB3))
  clear hR3 hB3 hB4
  go_wp2_with fail
  refine HD.out.mono ?_
  rintro e w4 ⟨v4, v5, rfl, hR4, _, hB4⟩
  clear HD
  have HB4 := hid (And.intro (HB3.out.1.trans (hB4.mono HB3.out.1.size)) (And.intro (HB3.out.2.below hB4) hR4))
  clear HB3 hR4 hB4
  have HF := hid (NatOf_any m w4 (by have := HXP.out.2.2; omega))
  go_wp2_with fail
  refine HF.out.mono ?_
  rintro e w5 ⟨v6, rfl, hR5, hB5⟩
  clear HF
  have HM := hid (NatMul_any u5 v6 r m w5 ((HB4.out.2.1).below hB5) hR5 (b_big HRB.out.2.2 (by have := HA.out.2.2; omega)) (b_big (a := 1) (by have := HXP.out.2.2; rw [Nat.pow_one, B16_val]; omega) (by omega)))
  have HB5 := hid (And.intro (HB4.out.1.trans (hB5.mono HB4.out.1.size)) (And.intro (HB4.out.2.1.below hB5) (HB4.out.2.2.below hB5)))
  clear HB4 hR5 hB5
  go_wp2_with fail
  refine HM.out.mono ?_
  rintro e w6 ⟨v7, rfl, hR6, hB6⟩
  clear HM
  have HAd := hid (NatAdd_any v7 v4 (r * m) (x / r ^ m) w6 hR6 (HB5.out.2.2.below hB6) (b_big HNB.out.1 (by have := HA.out.2.2; omega)) (b_big HNB.out.2.1 (by have := HA.out.2.2; omega)))
  have HB6 := hid (And.intro (HB5.out.1.trans (hB6.mono HB5.out.1.size)) (HB5.out.2.1.below hB6))
  clear HB5 hR6 hB6
  go_wp2_with fail
  refine HAd.out.mono ?_
  rintro e w7 ⟨v8, rfl, hR7, hB7⟩
  clear HAd
  have HF2 := hid (NatOf_any (m + 1) w7 (by have := HXP.out.2.2; omega))
  have HB7 := hid (And.intro (HB6.out.1.trans (hB7.mono HB6.out.1.size)) (And.intro (HB6.out.2.below hB7) hR7))
  clear HB6 hR7 hB7
  go_wp2_with fail
  refine HF2.out.mono ?_
  rintro e wa ⟨va9, rfl, hRa, hBa⟩
  clear HF2
  have HDw := hid (NatDiv_any v8 va9 (r * m + x / r ^ m) (m + 1) wa (HB7.out.2.2.below hBa) hRa (lt_8w HNB.out.2.2 (by have := HA.out.2.2; omega)) (lt_8w (a := 1) (by have := HXP.out.2.2; rw [Nat.pow_one, B16_val]; omega) (by omega)) (Nat.succ_pos m))
  replace HB7 := hid (And.intro (HB7.out.1.trans (hBa.mono HB7.out.1.size)) (HB7.out.2.1.below hBa))
  clear hRa hBa
  go_wp2_with fail
  refine HDw.out.mono ?_
  rintro e w8 ⟨v9, v10, rfl, hR8, _, hB8⟩
  clear HDw
  rw [show (r * m + x / r ^ m) / (m + 1) = nnext x m r from rfl] at hR8
  have hnb : nnext x m r < B16 ^ (A + 1) := Nat.lt_of_le_of_lt (Nat.div_le_self _ _) HNB.out.2.2
  have HCp := hid (NatCmp_any v9 u5 (nnext x m r) r w8 hR8 (HB7.out.2.below hB8) (b_big hnb (by have := HA.out.2.2; omega)) (b_big HRB.out.2.2 (by have := HA.out.2.2; omega)))
  have HB8 := hid (And.intro (HB7.out.1.trans (hB8.mono HB7.out.1.size)) (And.intro (HB7.out.2.below hB8) hR8))
  clear HB7 hR8 hB8 hnb
  go_wp2_with fail
  refine HCp.out.mono ?_
  rintro e w9 ⟨rfl, q9, rfl⟩
  clear HCp
  by_cases hc : r ≤ nnext x m r
  ·have hd : decide ((0 : Int) ≤ cmp3 (nnext x m r) r) = true := cmp3_geb.trans (decide_eq_true hc)
   have HC := hid hc
   clear hc
   go_wp2_with fail
   go_ret
   refine ⟨_, rfl, ?_, below_drewN HB8.out.1 q9⟩
   rw [nroot_eq (Nat.succ_pos m) (isRoot HQ.out.2.2.2 (stops HQ.out.2.1 HC.out))]
   exact HB8.out.2.1.drewN q9
  ·have hd : decide ((0 : Int) ≤ cmp3 (nnext x m r) r) = false := cmp3_geb.trans (decide_eq_false hc)
   have HC := hid hc
   clear hc
   go_wp2_with fail
   go_roundg (nnext x m r)
   case measure => have := HC.out; have := HQ.out.1; omega
   case rel =>
    have hab : Above x (m + 1) (nnext x m r) := above_next HQ.out.2.1
    refine ⟨nnext x m r, Nat.le_refl _, hab.pos HXP.out.1, ?_, hab, HB8.out.2.2.drewN q9, below_drewN HB8.out.1 q9⟩
    have := HC.out; have := HQ.out.2.2.1; omega
theorem NatRoot_any (va : Value) (x n A : Nat) (w : World) (ha : Rep B16 w va x) (hx : x < B16 ^ A) (hA : A ≤ 400) (hn : 2 ≤ n) (hn8 : n ≤ 8) :
  Calls Tryz.prog 139 #[va, .int .i64 (n : Int)] w fun e w' => ∃ v, e = .returned v ∧ Rep B16 w' v (nroot x n) ∧ Below w.heap.size w w' := by
 rcases Nat.eq_zero_or_pos x with h0 | h0
 ·subst h0
  rw [nroot_zero (by omega)]
  obtain ⟨p, k, c, rfl, _, hlk, _⟩ := ha
  obtain rfl := hlk.unique (by decide) Len.zero
  clear hx hA hlk
  go_enter Tryz.func139, Tryz.ntmps139
  go_wp2_with fail
  go_ret
  exact ⟨_, rfl, Rep.nil, Below.refl _ _⟩
 ·obtain ⟨m, rfl⟩ : ∃ m, n = m + 1 := ⟨n - 1, by omega⟩
  exact NatRoot_pos va x m A w ha hx hA h0 (by omega) (by omega)
end Go.Proofs.YtheojajaefjecaaGreatDoor
