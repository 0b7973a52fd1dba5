/- Roots of natural numbers, in the specification. -/
import Derived.Test.YtjnfnngobkjneaaGreatDoorPowR
import Derived.Test.YtjnfnngobkjneaaGreatDoorBitsQ
import Derived.Test.YtjnfnngobkjneaaGreatDoorRootN
namespace Go.Proofs.YtjnfnngobkjneaaGreatDoor
open Go.RowKit Dg Rt

theorem dbl_B {x A : Nat} (h : x < B16 ^ A) : 2 * x < B16 ^ (A + 1) := by
  have h2 : 2 ≤ B16 := by rw [B16_val]; omega
  have h3 := Nat.mul_le_mul_right (B16 ^ A) h2
  rw [Nat.pow_succ, Nat.mul_comm (B16 ^ A)]
  omega
theorem len_small16 {x b A : Nat} (hl : Len 2 x b) (hx : x < B16 ^ A) : b ≤ 16 * A := by
  refine hl.le (by decide) ?_
  rw [Nat.pow_mul]
  exact hx
theorem lt_8w {x a : Nat} (h : x < B16 ^ a) (ha : a ≤ 800000000) : x < B16 ^ 800000000 := by
  generalize 800000000 = k at *
  exact b_bigk h ha
theorem nnext_bd16 {x m r A : Nat} (hx : x < B16 ^ A) (hr : r ≤ 2 * x) (hm : m < 8) : r * m < B16 ^ (A + 1) ∧ x / r ^ m < B16 ^ (A + 1) ∧ r * m + x / r ^ m < B16 ^ (A + 1) := by
  have h1 : r * m ≤ 2 * x * 7 := Nat.mul_le_mul hr (by omega)
  have h2 : x / r ^ m ≤ x := Nat.div_le_self _ _
  have h4 : 100 ≤ B16 := by rw [B16_val]; omega
  have h3 := Nat.mul_le_mul_right (B16 ^ A) h4
  rw [Nat.pow_succ, Nat.mul_comm (B16 ^ A)]
  generalize x / r ^ m = q at *
  generalize r * m = p at *
  omega
def QRootRel (w0 : World) (x n k : Nat) (v : Value) (wr : World) : Prop :=
  ∃ r : Nat, r ≤ k ∧ 0 < r ∧ r ≤ 2 * x ∧ Above x n r ∧ Rep B16 wr v r ∧ Below w0.heap.size w0 wr

set_option maxHeartbeats 4000000 in
set_option maxRecDepth 100000 in
theorem NatRoot_pos (va : Value) (x m A : Nat) (w : World) (ha : Rep B16 w va x) (hx : x < B16 ^ A) (hA : A ≤ 400) (hx0 : 0 < x) (hm : 0 < m) (hm8 : m < 8) :
    Calls Tryz.prog 71 #[va, .int .i64 ((m + 1 : Nat) : Int)] w fun e w' => ∃ v, e = .returned v ∧ Rep B16 w' v (nroot x (m + 1)) ∧ Below w.heap.size w w' := by
  have HA := hid (And.intro ha (And.intro hx hA))
  have HXP := hid (And.intro hx0 (And.intro hm hm8))
  have HOf := hid (NatOf_any 1 w (by decide))
  obtain ⟨b, hl⟩ := exists_len2 x
  have HBt := hid (fun (W : World) (hW : Below w.heap.size w W) => NatBits_any va x b W (ha.below hW) (b_big hx (by omega)) hl)
  have HL := hid (And.intro hl (len_small16 hl hx))
  have HAr := hid (start_arg (b := b) (m := m) (by have := HA.out.2.2; have := HL.out.2; omega) hm8)
  obtain ⟨p, k, c, rfl, _, hlk, _⟩ := ha
  have hk : 0 < k := by
    rcases Nat.eq_zero_or_pos k with h | h
    · subst h; have := hlk.eq_zero; omega
    · exact h
  have hk0 : ((k : Int) == 0) = false := by simp; omega
  have hm1 : decide ((m : Int) + 1 < 1) = false := decide_eq_false (by omega)
  clear hx hA hx0 hm hm8 hl hlk hk
  go_enter Tryz.func71, Tryz.ntmps71
  go_wp2_with fail
  refine HOf.out.mono ?_
  rintro e w1 ⟨v1, rfl, hR1, hB1⟩
  clear HOf
  go_wp2_with fail
  refine (HBt.out w1 hB1).mono ?_
  rintro e w' ⟨rfl, rfl⟩
  clear HBt
  go_wp2_with fail
  rw [HAr.out]
  clear HAr
  refine (NatShg_any v1 1 ((b + (m + 1) - 1) / (m + 1)) w1 hR1 (b_big (a := 1) (by decide) (by omega)) ?_).mono ?_
  · have h1 := Nat.div_le_self (b + (m + 1) - 1) (m + 1)
    have h2 := HL.out.2
    have h3 := HA.out.2.2
    have h4 := HXP.out.2.2
    omega
  rintro e w2 ⟨v2, rfl, hR2, hB2⟩
  rw [Nat.one_mul] at hR2
  have HS : Hid (QRootRel w x (m + 1) (2 * x) v2 w2) := hid ⟨_, start_le HL.out.1 HXP.out.1 (Nat.succ_pos m), Nat.pow_pos (by omega), start_le HL.out.1 HXP.out.1 (Nat.succ_pos m), above_start (Nat.succ_pos m) HL.out.1.1, hR2, hB1.trans (hB2.mono hB1.size)⟩
  clear hR1 hB1 hR2 hB2 HL hk0 hm1
  go_wp2_with fail
  go_loopg [5] (2 * x) (fun k v wr => QRootRel w x (m + 1) k v wr)
  case atStart => exact HS.out
  case round =>
    clear HS
    obtain ⟨r, hk, hr0, hr2, hab, hR, hB⟩ := hrel
    have HQ := hid (And.intro hk (And.intro hr0 (And.intro hr2 hab)))
    have hrA : r < B16 ^ (A + 1) := Nat.lt_of_le_of_lt hr2 (dbl_B HA.out.2.1)
    have HP := hid (NatPow_any u5 r m (A + 1) wr hR hrA (by have := HA.out.2.2; omega) (by have := HXP.out.2.2; omega))
    have HRB := hid (And.intro hR (And.intro hB hrA))
    have hwm : wrap64 (m : Int) = m := by unfold wrap64; have := HXP.out.2.2; omega
    have hwu : IntKind.u64.wrap (m : Int) = m := by rw [IntKind.wrap_u64]; have := HXP.out.2.2; omega
    have hwv : IntKind.u64.wrap ((m : Int) + 1) = ((m + 1 : Nat) : Int) := by rw [IntKind.wrap_u64]; have := HXP.out.2.2; omega
    have HNB := hid (nnext_bd16 HA.out.2.1 HQ.out.2.2.1 HXP.out.2.2)
    clear hk hr0 hr2 hab hR hB hrA
    go_wp2_with fail
    refine HP.out.mono ?_
    rintro e w3 ⟨v3, rfl, hR3, hB3⟩
    clear HP
    have hB4 := HRB.out.2.1.trans (hB3.mono HRB.out.2.1.size)
    have HD := hid (NatDiv_any _ v3 x (r ^ m) w3 (HA.out.1.below hB4) hR3 (lt_8w HA.out.2.1 (by have := HA.out.2.2; omega)) (lt_8w (pow_Bb HRB.out.2.2 (by have := HA.out.2.2; omega) (by have := HXP.out.2.2; omega)) (by omega)) (Nat.pow_pos HQ.out.2.1))
    have HB3 := hid (And.intro hB4 (HRB.out.1.below hB3))
    clear hR3 hB3 hB4
    go_wp2_with fail
    refine HD.out.mono ?_
    rintro e w4 ⟨v4, v5, rfl, hR4, _, hB4⟩
    clear HD
    have HB4 := hid (And.intro (HB3.out.1.trans (hB4.mono HB3.out.1.size)) (And.intro (HB3.out.2.below hB4) hR4))
    clear HB3 hR4 hB4
    have HF := hid (NatOf_any m w4 (by have := HXP.out.2.2; omega))
    go_wp2_with fail
    refine HF.out.mono ?_
    rintro e w5 ⟨v6, rfl, hR5, hB5⟩
    clear HF
    have HM := hid (NatMul_any u5 v6 r m w5 ((HB4.out.2.1).below hB5) hR5 (b_big HRB.out.2.2 (by have := HA.out.2.2; omega)) (b_big (a := 1) (by have := HXP.out.2.2; rw [Nat.pow_one, B16_val]; omega) (by omega)))
    have HB5 := hid (And.intro (HB4.out.1.trans (hB5.mono HB4.out.1.size)) (And.intro (HB4.out.2.1.below hB5) (HB4.out.2.2.below hB5)))
    clear HB4 hR5 hB5
    go_wp2_with fail
    refine HM.out.mono ?_
    rintro e w6 ⟨v7, rfl, hR6, hB6⟩
    clear HM
    have HAd := hid (NatAdd_any v7 v4 (r * m) (x / r ^ m) w6 hR6 (HB5.out.2.2.below hB6) (b_big HNB.out.1 (by have := HA.out.2.2; omega)) (b_big HNB.out.2.1 (by have := HA.out.2.2; omega)))
    have HB6 := hid (And.intro (HB5.out.1.trans (hB6.mono HB5.out.1.size)) (HB5.out.2.1.below hB6))
    clear HB5 hR6 hB6
    go_wp2_with fail
    refine HAd.out.mono ?_
    rintro e w7 ⟨v8, rfl, hR7, hB7⟩
    clear HAd
    have HF2 := hid (NatOf_any (m + 1) w7 (by have := HXP.out.2.2; omega))
    have HB7 := hid (And.intro (HB6.out.1.trans (hB7.mono HB6.out.1.size)) (And.intro (HB6.out.2.below hB7) hR7))
    clear HB6 hR7 hB7
    go_wp2_with fail
    refine HF2.out.mono ?_
    rintro e wa ⟨va9, rfl, hRa, hBa⟩
    clear HF2
    have HDw := hid (NatDiv_any v8 va9 (r * m + x / r ^ m) (m + 1) wa (HB7.out.2.2.below hBa) hRa (lt_8w HNB.out.2.2 (by have := HA.out.2.2; omega)) (lt_8w (a := 1) (by have := HXP.out.2.2; rw [Nat.pow_one, B16_val]; omega) (by omega)) (Nat.succ_pos m))
    replace HB7 := hid (And.intro (HB7.out.1.trans (hBa.mono HB7.out.1.size)) (HB7.out.2.1.below hBa))
    clear hRa hBa
    go_wp2_with fail
    refine HDw.out.mono ?_
    rintro e w8 ⟨v9, v10, rfl, hR8, _, hB8⟩
    clear HDw
    rw [show (r * m + x / r ^ m) / (m + 1) = nnext x m r from rfl] at hR8
    have hnb : nnext x m r < B16 ^ (A + 1) := Nat.lt_of_le_of_lt (Nat.div_le_self _ _) HNB.out.2.2
    have HCp := hid (NatCmp_any v9 u5 (nnext x m r) r w8 hR8 (HB7.out.2.below hB8) (b_big hnb (by have := HA.out.2.2; omega)) (b_big HRB.out.2.2 (by have := HA.out.2.2; omega)))
    have HB8 := hid (And.intro (HB7.out.1.trans (hB8.mono HB7.out.1.size)) (And.intro (HB7.out.2.below hB8) hR8))
    clear HB7 hR8 hB8 hnb
    go_wp2_with fail
    refine HCp.out.mono ?_
    rintro e w9 ⟨rfl, q9, rfl⟩
    clear HCp
    by_cases hc : r ≤ nnext x m r
    · have hd : decide ((0 : Int) ≤ cmp3 (nnext x m r) r) = true := cmp3_geb.trans (decide_eq_true hc)
      have HC := hid hc
      clear hc
      go_wp2_with fail
      go_ret
      refine ⟨_, rfl, ?_, below_drewN HB8.out.1 q9⟩
      rw [nroot_eq (Nat.succ_pos m) (isRoot HQ.out.2.2.2 (stops HQ.out.2.1 HC.out))]
      exact HB8.out.2.1.drewN q9
    · have hd : decide ((0 : Int) ≤ cmp3 (nnext x m r) r) = false := cmp3_geb.trans (decide_eq_false hc)
      have HC := hid hc
      clear hc
      go_wp2_with fail
      go_roundg (nnext x m r)
      case measure => have := HC.out; have := HQ.out.1; omega
      case rel =>
        have hab : Above x (m + 1) (nnext x m r) := above_next HQ.out.2.1
        refine ⟨nnext x m r, Nat.le_refl _, hab.pos HXP.out.1, ?_, hab, HB8.out.2.2.drewN q9, below_drewN HB8.out.1 q9⟩
        have := HC.out; have := HQ.out.2.2.1; omega

theorem NatRoot_any (va : Value) (x n A : Nat) (w : World) (ha : Rep B16 w va x) (hx : x < B16 ^ A) (hA : A ≤ 400) (hn : 2 ≤ n) (hn8 : n ≤ 8) :
    Calls Tryz.prog 71 #[va, .int .i64 (n : Int)] w fun e w' => ∃ v, e = .returned v ∧ Rep B16 w' v (nroot x n) ∧ Below w.heap.size w w' := by
  rcases Nat.eq_zero_or_pos x with h0 | h0
  · subst h0
    rw [nroot_zero (by omega)]
    obtain ⟨p, k, c, rfl, _, hlk, _⟩ := ha
    obtain rfl := hlk.unique (by decide) Len.zero
    clear hx hA hlk
    go_enter Tryz.func71, Tryz.ntmps71
    go_wp2_with fail
    go_ret
    exact ⟨_, rfl, Rep.nil, Below.refl _ _⟩
  · obtain ⟨m, rfl⟩ : ∃ m, n = m + 1 := ⟨n - 1, by omega⟩
    exact NatRoot_pos va x m A w ha hx hA h0 (by omega) (by omega)
end Go.Proofs.YtjnfnngobkjneaaGreatDoor
