/- Roots of natural numbers, in the program. Roots of fractions and numbers, in the program. Roots of numbers, in the program. The root of a number, in the program. -/
import Derived.Test.YtheojajaefjecaaGreatDoorPowP
import Derived.Test.YtheojajaefjecaaGreatDoorGrtM
namespace Go.Proofs.YtheojajaefjecaaGreatDoor
open Go.RowKit Dg Rt
theorem start_le {x b n : Nat} (hl : Len 2 x b) (hx : 0 < x) (hn : 0 < n) : 2 ^ ((b + n - 1) / n) ≤ 2 * x := by
 have hb : 0 < b := by
  rcases Nat.eq_zero_or_pos b with h | h
  ·subst h; have := hl.eq_zero; omega
  ·exact h
 have h1 := hl.2 hb
 have h2 : (b + n - 1) / n ≤ b := by
  refine Nat.div_le_of_le_mul ?_
  obtain ⟨c, rfl⟩ : ∃ c, b = c + 1 := ⟨b - 1, by omega⟩
  obtain ⟨m, rfl⟩ : ∃ m, n = m + 1 := ⟨n - 1, by omega⟩
  have : (m + 1) * (c + 1) = m * c + m + c + 1 := by rw [Nat.add_mul, Nat.mul_add]; omega
  have := Nat.zero_le (m * c)
  omega
 have h3 := Nat.pow_le_pow_right (show 0 < 2 by omega) h2
 have h4 : 2 ^ b = 2 * 2 ^ (b - 1) := by
  obtain ⟨c, rfl⟩ : ∃ c, b = c + 1 := ⟨b - 1, by omega⟩
  rw [Nat.pow_succ, Nat.add_sub_cancel]; omega
 omega
theorem dbl_W {x A : Nat} (h : x < W32 ^ A) : 2 * x < W32 ^ (A + 1) := by
 have h2 : 2 ≤ W32 := by rw [W32_val]; omega
 have h3 := Nat.mul_le_mul_right (W32 ^ A) h2
 rw [Nat.pow_succ, Nat.mul_comm (W32 ^ A)]
 omega
theorem start_arg {b m : Nat} (hb : b ≤ 100000) (hm : m < 8) : wrap64 ((wrap64 (wrap64 ((b : Int) + ((m : Int) + 1)) - 1)).tdiv ((m : Int) + 1)) = (((b + (m + 1) - 1) / (m + 1) : Nat) : Int) := by
 have e1 : wrap64 ((b : Int) + ((m : Int) + 1)) = ((b + (m + 1) : Nat) : Int) := by unfold wrap64; omega
 have e2 : wrap64 (((b + (m + 1) : Nat) : Int) - 1) = ((b + (m + 1) - 1 : Nat) : Int) := by unfold wrap64; omega
 rw [e1, e2, show ((m : Int) + 1) = ((m + 1 : Nat) : Int) by omega, ← Int.ofNat_tdiv]
 have h := Nat.div_le_self (b + (m + 1) - 1) (m + 1)
 generalize (b + (m + 1) - 1) / (m + 1) = q at *
 unfold wrap64; omega
theorem len_small {x b A : Nat} (hl : Len 2 x b) (hx : x < W32 ^ A) : b ≤ 32 * A := by
 refine hl.le (by decide) ?_
 rw [Nat.pow_mul]
 exact hx
theorem lt_9w {x a : Nat} (h : x < W32 ^ a) (ha : a ≤ 900000000) : x < W32 ^ 900000000 := by
 generalize 900000000 = k at *
 exact lt_pow h ha
def nnext (x m r : Nat) : Nat := (r * m + x / r ^ m) / (m + 1)
theorem nnext_bd {x m r A : Nat} (hx : x < W32 ^ A) (hr : r ≤ 2 * x) (hm : m < 8) : r * m < W32 ^ (A + 1) ∧ x / r ^ m < W32 ^ (A + 1) ∧ r * m + x / r ^ m < W32 ^ (A + 1) := by
 have h1 : r * m ≤ 2 * x * 7 := Nat.mul_le_mul hr (by omega)
 have h2 : x / r ^ m ≤ x := Nat.div_le_self _ _
 have h4 : 100 ≤ W32 := by rw [W32_val]; omega
 have h3 := Nat.mul_le_mul_right (W32 ^ A) h4
 rw [Nat.pow_succ, Nat.mul_comm (W32 ^ A)]
 generalize x / r ^ m = q at *
 generalize r * m = p at *
 omega
theorem cmp3_geb {a b : Nat} : decide ((0 : Int) ≤ cmp3 a b) = decide (b ≤ a) := by
 rw [decide_eq_decide]
 rcases Nat.lt_trichotomy a b with h | h | h
 ·rw [cmp3_lt h]; omega
 ·subst h; rw [cmp3_eq]; omega
 ·rw [cmp3_gt h]; omega
def RootRel (w0 : World) (x n k : Nat) (v : Value) (wr : World) : Prop :=
 ∃ r : Nat, r ≤ k ∧ 0 < r ∧ r ≤ 2 * x ∧ Above x n r ∧ Rep W32 wr v r ∧ Below w0.heap.size w0 wr
set_option maxHeartbeats 4000000 in
set_option maxRecDepth 100000 in
theorem Root_pos (va : Value) (x m A : Nat) (w : World) (ha : Rep W32 w va x) (hx : x < W32 ^ A) (hA : A ≤ 200) (hx0 : 0 < x) (hm : 0 < m) (hm8 : m < 8) (ht : TabOk w) :
  Calls Tryz.prog 230 #[va, .int .i64 ((m + 1 : Nat) : Int)] w fun e w' => ∃ v, e = .returned v ∧ Rep W32 w' v (nroot x (m + 1)) ∧ Below w.heap.size w w' := by
 have HA := hid (And.intro ha (And.intro ht (And.intro hx hA)))
 have HZ := hid (IsZero_any va x w ha)
 rw [decide_eq_false (show ¬ x = 0 by omega)] at HZ
 have HOf := hid (FromUint_any 1 w (by decide))
 have HBt := hid (fun (W : World) (hW : Below w.heap.size w W) => Bits_any va x W (ha.below hW) (lt_big hx (by omega)))
 have HXP := hid (And.intro hx0 (And.intro hm hm8))
 clear ha hx hA ht hx0 hm hm8
 go_enter Tryz.func230, Tryz.ntmps230
 go_wp2_with fail
 refine HZ.out.mono ?_
 rintro e w' ⟨rfl, rfl⟩
 clear HZ
 go_wp2_with fail
 refine HOf.out.mono ?_
 rintro e w1 ⟨v1, rfl, hR1, hB1⟩
 clear HOf
 go_wp2_with fail
 refine (HBt.out w1 hB1).mono ?_
 rintro e w' ⟨b, rfl, hl, rfl⟩
 clear HBt
 have hb := len_small hl HA.out.2.2.1
 have HL := hid (And.intro hl hb)
 have HAr := hid (start_arg (b := b) (m := m) (by have := HA.out.2.2.2; omega) HXP.out.2.2)
 clear hl hb
 go_wp2_with fail
 rw [HAr.out]
 clear HAr
 refine (Shl_any v1 1 ((b + (m + 1) - 1) / (m + 1)) w1 hR1 (lt_big (a := 1) (by decide) (by omega)) ?_).mono ?_
 ·have h1 := Nat.div_le_self (b + (m + 1) - 1) (m + 1)
  have h2 := HL.out.2
  have h3 := HA.out.2.2.2
  have h4 := HXP.out.2.2
  omega
 rintro e w2 ⟨v2, rfl, hR2, hB2⟩
 rw [Nat.one_mul] at hR2
 have HS : Hid (RootRel w x (m + 1) (2 * x) v2 w2) := hid ⟨_, start_le HL.out.1 HXP.out.1 (Nat.succ_pos m), Nat.pow_pos (by omega), start_le HL.out.1 HXP.out.1 (Nat.succ_pos m), above_start (Nat.succ_pos m) HL.out.1.1, hR2, hB1.trans (hB2.mono hB1.size)⟩
 clear hR1 hB1 hR2 hB2 HL
 go_wp2_with fail
 go_loopg [5] (2 * x) (fun k v wr => RootRel w x (m + 1) k v wr)
 case atStart => exact HS.out
 case round =>
  clear HS
  obtain ⟨r, hk, hr0, hr2, hab, hR, hB⟩ := hrel
  have HQ := hid (And.intro hk (And.intro hr0 (And.intro hr2 hab)))
  have hrA : r < W32 ^ (A + 1) := Nat.lt_of_le_of_lt hr2 (dbl_W HA.out.2.2.1)
  have HP := hid (Pow_any u5 r m (A + 1) wr hR hrA (by have := HA.out.2.2.2; omega) (by have := HXP.out.2.2; omega))
  have HRB := hid (And.intro hR (And.intro hB hrA))
  have hwm : wrap64 (m : Int) = m := by unfold wrap64; have := HXP.out.2.2; omega
  clear hk hr0 hr2 hab hR hB hrA
  go_wp2_with fail
  refine HP.out.mono ?_
  rintro e w3 ⟨v3, rfl, hR3, hB3⟩
  clear HP
  have hB4 := HRB.out.2.1.trans (hB3.mono HRB.out.2.1.size)
  have HD := hid (Div_any va v3 x (r ^ m) w3 (HA.out.1.below hB4) hR3 (lt_9w HA.out.2.2.1 (by have := HA.out.2.2.2; omega)) (lt_9w (pow_Wb HRB.out.2.2 (by have := HA.out.2.2.2; omega) (by have := HXP.out.2.2; omega)) (by omega)) (Nat.pow_pos HQ.out.2.1) (HA.out.2.1.below hB4))
  have HB3 := hid (And.intro hB4 (HRB.out.1.below hB3))
  clear hR3 hB3 hB4
  go_wp2_with fail
  refine HD.out.mono ?_
  rintro e w4 ⟨v4, v5, rfl, hR4, _, hB4⟩
  clear HD
  have HB4 := hid (And.intro (HB3.out.1.trans (hB4.mono HB3.out.1.size)) (And.intro (HB3.out.2.below hB4) hR4))
  clear HB3 hR4 hB4
  have hwu : IntKind.u64.wrap (m : Int) = m := by rw [IntKind.wrap_u64]; have := HXP.out.2.2; omega
  have hw3 : IntKind.u32.wrap ((m : Int) + 1) = ((m + 1 : Nat) : Int) := by rw [IntKind.wrap_u32]; have := HXP.out.2.2; omega
  have HF := hid (FromUint_any m w4 (by have := HXP.out.2.2; rw [W32_val]; omega))
  have HNB := hid (nnext_bd HA.out.2.2.1 HQ.out.2.2.1 HXP.out.2.2)
  go_wp2_with fail
  refine HF.out.mono ?_
  rintro e w5 ⟨v6, rfl, hR5, hB5⟩
  clear HF
  have HM := hid (Mul_any u5 v6 r m w5 ((HB4.out.2.1).below hB5) hR5 (lt_big HRB.out.2.2 (by have := HA.out.2.2.2; omega)) (lt_big (a := 1) (by have := HXP.out.2.2; rw [Nat.pow_one, W32_val]; omega) (by omega)))
  have HB5 := hid (And.intro (HB4.out.1.trans (hB5.mono HB4.out.1.size)) (And.intro (HB4.out.2.1.below hB5) (HB4.out.2.2.below hB5)))
  clear HB4 hR5 hB5
  go_wp2_with fail
  refine HM.out.mono ?_
  rintro e w6 ⟨v7, rfl, hR6, hB6⟩
  clear HM
  have HAd := hid (Add_any v7 v4 (r * m) (x / r ^ m) w6 hR6 (HB5.out.2.2.below hB6) (lt_big HNB.out.1 (by have := HA.out.2.2.2; omega)) (lt_big HNB.out.2.1 (by have := HA.out.2.2.2; omega)))
  have HB6 := hid (And.intro (HB5.out.1.trans (hB6.mono HB5.out.1.size)) (HB5.out.2.1.below hB6))
  clear HB5 hR6 hB6
  go_wp2_with fail
  refine HAd.out.mono ?_
  rintro e w7 ⟨v8, rfl, hR7, hB7⟩
  clear HAd
  have HDw := hid (divWord_any v8 (r * m + x / r ^ m) (m + 1) w7 hR7 (lt_big HNB.out.2.2 (by have := HA.out.2.2.2; omega)) (Nat.succ_pos m) (by have := HXP.out.2.2; omega))
  have HB7 := hid (And.intro (HB6.out.1.trans (hB7.mono HB6.out.1.size)) (HB6.out.2.below hB7))
  clear HB6 hR7 hB7
  go_wp2_with fail
  refine HDw.out.mono ?_
  rintro e w8 ⟨v9, rfl, hR8, hB8⟩
  clear HDw
  rw [show (r * m + x / r ^ m) / (m + 1) = nnext x m r from rfl] at hR8
  have hnb : nnext x m r < W32 ^ (A + 1) := Nat.lt_of_le_of_lt (Nat.div_le_self _ _) HNB.out.2.2
  have HCp := hid (Compare_any v9 u5 (nnext x m r) r w8 hR8 (HB7.out.2.below hB8) (lt_big hnb (by have := HA.out.2.2.2; omega)) (lt_big HRB.out.2.2 (by have := HA.out.2.2.2; omega)))
  have HB8 := hid (And.intro (HB7.out.1.trans (hB8.mono HB7.out.1.size)) (And.intro (HB7.out.2.below hB8) hR8))
  clear HB7 hR8 hB8 hnb
  go_wp2_with fail
  refine HCp.out.mono ?_
  rintro e w9 ⟨rfl, q9, rfl⟩
  clear HCp
  by_cases hc : r ≤ nnext x m r
  ·have hd : decide ((0 : Int) ≤ cmp3 (nnext x m r) r) = true := cmp3_geb.trans (decide_eq_true hc)
   have HC := hid hc
   clear hc
   go_wp2_with fail
   go_ret
   refine ⟨_, rfl, ?_, below_drewN HB8.out.1 q9⟩
   rw [nroot_eq (Nat.succ_pos m) (isRoot HQ.out.2.2.2 (stops HQ.out.2.1 HC.out))]
   exact HB8.out.2.1.drewN q9
  ·have hd : decide ((0 : Int) ≤ cmp3 (nnext x m r) r) = false := cmp3_geb.trans (decide_eq_false hc)
   have HC := hid hc
   clear hc
   go_wp2_with fail
   go_roundg (nnext x m r)
   case measure => have := HC.out; have := HQ.out.1; omega
   case rel =>
    have hab : Above x (m + 1) (nnext x m r) := above_next HQ.out.2.1
    refine ⟨nnext x m r, Nat.le_refl _, hab.pos HXP.out.1, ?_, hab, HB8.out.2.2.drewN q9, below_drewN HB8.out.1 q9⟩
    have := HC.out; have := HQ.out.2.2.1; omega
theorem Root_any (va : Value) (x n A : Nat) (w : World) (ha : Rep W32 w va x) (hx : x < W32 ^ A) (hA : A ≤ 200) (hn : 2 ≤ n) (hn8 : n ≤ 8) (ht : TabOk w) :
  Calls Tryz.prog 230 #[va, .int .i64 (n : Int)] w fun e w' => ∃ v, e = .returned v ∧ Rep W32 w' v (nroot x n) ∧ Below w.heap.size w w' := by
 rcases Nat.eq_zero_or_pos x with h0 | h0
 ·subst h0
  rw [nroot_zero (by omega)]
  have HZ := hid (IsZero_any va 0 w ha)
  rw [decide_eq_true rfl] at HZ
  clear ha hx hA ht
  go_enter Tryz.func230, Tryz.ntmps230
  go_wp2_with fail
  refine HZ.out.mono ?_
  rintro e w' ⟨rfl, rfl⟩
  go_wp2_with fail
  go_ret
  exact ⟨_, rfl, Rep.nil, Below.refl _ _⟩
 ·obtain ⟨m, rfl⟩ : ∃ m, n = m + 1 := ⟨n - 1, by omega⟩
  exact Root_pos va x m A w ha hx hA h0 (by omega) (by omega) ht
end Go.Proofs.YtheojajaefjecaaGreatDoor

namespace Go.Proofs.YtheojajaefjecaaGreatDoor
open Go.RowKit Dg Rt
theorem cmp3_zero {a b : Nat} (h : cmp3 a b = 0) : a = b := by
 rcases Nat.lt_trichotomy a b with h1 | h1 | h1
 ·rw [cmp3_lt h1] at h; exact absurd h (by decide)
 ·exact h1
 ·rw [cmp3_gt h1] at h; exact absurd h (by decide)
end Go.Proofs.YtheojajaefjecaaGreatDoor

namespace Go.Proofs.YtheojajaefjecaaGreatDoor
open Go.RowKit Dg Rt
def BoxG (w : World) (F : Nat) (b : Bool) : Prop := ∃ t, w.heap[F]? = some (.cells #[.bool b] t (0, 0))
theorem BoxG.lt {w : World} {F : Nat} {b : Bool} (h : BoxG w F b) : F < w.heap.size := by
 obtain ⟨t, h0⟩ := h
 exact (Array.getElem?_eq_some_iff.1 h0).1
theorem BoxG.keep {w w' : World} {F N : Nat} {b : Bool} (h : BoxG w F b) (hN : F < N) (hb : Below N w w') : BoxG w' F b := by
 obtain ⟨t, h0⟩ := h
 exact ⟨t, by rw [hb.block _ hN]; exact h0⟩
theorem BoxG.below {w w' : World} {F : Nat} {b : Bool} (h : BoxG w F b) (hb : Below w.heap.size w w') : BoxG w' F b := h.keep h.lt hb
theorem BoxG.cell {w : World} {F : Nat} {b : Bool} (h : BoxG w F b) : w.cell? ⟨F, 0, none⟩ = some (.bool b) ∧ w.frozen? ⟨F, 0, none⟩ = false := by
 obtain ⟨t, h0⟩ := h
 simp [World.cell?, World.frozen?, h0]
theorem BoxG.set {w : World} {F : Nat} {b : Bool} (h : BoxG w F b) (c : Bool) : BoxG (w.setCell ⟨F, 0, none⟩ (.bool c)) F c := by
 obtain ⟨t, h0⟩ := h
 exact ⟨t, heap_setCell_same w F 0 _ t _ h0⟩
theorem BoxG.other {w : World} {F B : Nat} {b : Bool} (h : BoxG w F b) (hne : F ≠ B) (k : Nat) (u : Value) : BoxG (w.setCell ⟨B, k, none⟩ u) F b := by
 obtain ⟨t, h0⟩ := h
 exact ⟨t, by rw [Below.heap_setCell _ _ _ _ hne]; exact h0⟩
def UponF (F : Nat) (W w' : World) : Prop := Below F W w' ∧ ∀ i, F < i → i < W.heap.size → w'.heap[i]? = W.heap[i]?
theorem UponF.of_below {F : Nat} {W w' : World} (h : Below W.heap.size W w') (hF : F < W.heap.size) : UponF F W w' := ⟨h.mono (Nat.le_of_lt hF), fun i _ hi => h.block i hi⟩
theorem UponF.below {F : Nat} {W w1 w2 : World} (h : UponF F W w1) (hF : F < W.heap.size) (hb : Below w1.heap.size w1 w2) : UponF F W w2 :=
 ⟨h.1.trans (hb.mono (Nat.le_trans (Nat.le_of_lt hF) h.1.size)), fun i h1 h2 => (hb.block i (Nat.lt_of_lt_of_le h2 h.1.size)).trans (h.2 i h1 h2)⟩
theorem Var3.upon {w w' : World} {F B : Nat} {x y z : Value} (h : Var3 w B x y z) (hF : F < B) (hu : UponF F w w') : Var3 w' B x y z := by
 obtain ⟨t, h0, h1⟩ := h
 exact ⟨t, by rw [hu.2 _ hF (Array.getElem?_eq_some_iff.1 h0).1]; exact h0, h1⟩
end Go.Proofs.YtheojajaefjecaaGreatDoor

namespace Go.Proofs.YtheojajaefjecaaGreatDoor
open Go.RowKit Dg Rt
theorem BoxG.upon {w w' : World} {F B : Nat} {b : Bool} (h : BoxG w F b) (hB : B < F) (hu : UponF B w w') : BoxG w' F b := by
 obtain ⟨t, h0⟩ := h
 exact ⟨t, by rw [hu.2 _ hB (Array.getElem?_eq_some_iff.1 h0).1]; exact h0⟩
theorem UponF.drew0 (F : Nat) (W : World) : UponF F W W.drew := ⟨(Below.refl _ _).drew, fun _ _ _ => rfl⟩
theorem UponF.set3 {F : Nat} {W w' : World} (h : UponF F W w') (x y z : Value) : UponF F W (((w'.setCell ⟨F, 0, none⟩ x).setCell ⟨F, 1, none⟩ y).setCell ⟨F, 2, none⟩ z) :=
 ⟨((h.1.setCell (Nat.le_refl _) x).setCell (Nat.le_refl _) y).setCell (Nat.le_refl _) z, fun i h1 h2 => (Below.heap_setCell _ _ _ _ (by show i ≠ F; omega)).trans ((Below.heap_setCell _ _ _ _ (by show i ≠ F; omega)).trans ((Below.heap_setCell _ _ _ _ (by show i ≠ F; omega)).trans (h.2 i h1 h2)))⟩
end Go.Proofs.YtheojajaefjecaaGreatDoor
