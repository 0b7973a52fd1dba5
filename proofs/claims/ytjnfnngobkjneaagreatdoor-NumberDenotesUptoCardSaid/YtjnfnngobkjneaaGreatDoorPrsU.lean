/- Texts of numbers of the specification: Parse. -/
import Derived.Test.YtjnfnngobkjneaaGreatDoorPrsS
import Derived.Test.YtjnfnngobkjneaaGreatDoorPrsT
import Derived.Test.YtjnfnngobkjneaaGreatDoorRefY
namespace Go.Proofs.YtjnfnngobkjneaaGreatDoor
open Go.RowKit Dg Dc

theorem pow_Bk {x A m : Nat} (hx : x < B16 ^ A) (hA : A ≤ 100) (hm : m ≤ 2048) : x ^ m < B16 ^ 300000 := by
  have h1 : x ^ m ≤ (B16 ^ A) ^ m := Nat.pow_le_pow_left (Nat.le_of_lt hx) m
  rw [← Nat.pow_mul] at h1
  have h2 := Nat.lt_of_le_of_lt h1 (Nat.pow_lt_pow_right (a := B16) (by decide) (Nat.lt_succ_self _))
  have hk : A * m + 1 ≤ 300000 := by have : A * m ≤ 100 * 2048 := Nat.mul_le_mul hA hm; omega
  revert hk
  generalize 300000 = k
  intro hk
  exact Nat.lt_of_lt_of_le h2 (Nat.pow_le_pow_right B16_pos hk)

set_option maxHeartbeats 4000000 in
set_option maxRecDepth 100000 in
theorem NatPow_k (va : Value) (x n A : Nat) (w : World) (ha : Rep B16 w va x) (hx : x < B16 ^ A) (hA : A ≤ 100) (hn : n < 2048) :
    Calls Tryz.prog 103 #[va, .int .i64 n] w fun e w' => ∃ v, e = .returned v ∧ Rep B16 w' v (x ^ n) ∧ Below w.heap.size w w' := by
  have HA := hid ha
  have HX := hid (And.intro hx hA)
  have HOf := hid (NatOf_any 1 w (by decide))
  clear ha hx hA
  go_enter Tryz.func103, Tryz.ntmps103
  go_wp2_with fail
  refine HOf.out.mono ?_
  rintro e w1 ⟨v1, rfl, hR1, hB1⟩
  clear HOf
  go_wp2_with fail
  go_loopw [5, 8] (fun v i wr => ∃ k : Nat, k ≤ n ∧ i = .int .i64 (k : Int) ∧ Rep B16 wr v (x ^ k) ∧ Below w.heap.size w wr) (fun _ i _ => n - (intOf i).toNat)
  case atStart => exact ⟨0, Nat.zero_le _, rfl, by rw [Nat.pow_zero]; exact hR1, hB1⟩
  case round =>
    obtain ⟨k, hk, rfl, hR, hB⟩ := hrel
    by_cases hlt : k < n
    · have HM := hid (NatMul_any u5 va (x ^ k) x wr hR (HA.out.below hB) (b_big (pow_Bk HX.out.1 HX.out.2 (show k ≤ 2048 by omega)) (by omega)) (b_big HX.out.1 (by have := HX.out.2; omega)))
      have HB := hid hB
      clear hR hB hR1 hB1
      go_wp2_with fail
      refine HM.out.mono ?_
      rintro e w2 ⟨v2, rfl, hR2, hB2⟩
      rw [← Nat.pow_succ] at hR2
      have HR2 := hid (And.intro hR2 (HB.out.trans (hB2.mono HB.out.size)))
      clear hR2 hB2
      go_wp2_with fail
      go_roundw
      case rel => exact ⟨k + 1, by omega, by go_num, HR2.out.1, HR2.out.2⟩
      case measure => simp [intOf]; omega
    · obtain rfl : k = n := by omega
      have HR := hid (And.intro hR hB)
      clear hR hB hR1 hB1
      go_wp2_with fail
      go_ret
      exact ⟨_, rfl, HR.out.1, HR.out.2⟩

theorem cut_lo_s {X : ByteArray} {b : List UInt8} (h : X = ⟨b.toArray⟩) (k : Nat) (hk : k ≤ b.length) (w : World) : (Instr.slice 9 (.string X) none (some (.int .i64 (k : Int))) none).run Tryz.prog w = .ok (.string ⟨(b.take k).toArray⟩) w := by
  subst h
  exact cut_lo b k hk w
theorem cut_hi_s {X : ByteArray} {b : List UInt8} (h : X = ⟨b.toArray⟩) (k : Nat) (hk : k ≤ b.length) (w : World) : (Instr.slice 9 (.string X) (some (.int .i64 (k : Int))) none none).run Tryz.prog w = .ok (.string ⟨(b.drop k).toArray⟩) w := by
  subst h
  exact cut_hi b k hk w
theorem done_fr {vn : Value} {nb : Bool} {n d : Nat} {W : World} (h : QNorm W vn (frac nb n d)) (hd : 0 < d) :
    Calls Tryz.prog 27 #[vn] W fun e w' => Below W.heap.size W w' ∧ URF w' e (if big (frac nb n d).2.1 (frac nb n d).2.2 then 1 else 0) (resT (if big (frac nb n d).2.1 (frac nb n d).2.2 then 1 else 0) (frac nb n d)) :=
  Done_any vn (frac nb n d) W h (frac_pos hd) (fun hz => frac_zero_sign hd hz)
theorem le_powB {x a k : Nat} (h : x < B16 ^ a) (ha : a ≤ k) : x < B16 ^ k := Nat.lt_of_lt_of_le h (Nat.pow_le_pow_right B16_pos ha)
theorem ten_b8 {x k : Nat} (h : x < 10 ^ k) : x < B16 ^ k := Nat.lt_of_lt_of_le h (Nat.pow_le_pow_left (by decide) k)
theorem eq_byte (c : UInt8) (k : Nat) (hk : k < 256) : ((c.toNat : Int) == (k : Int)) = decide (c = UInt8.ofNat k) ∧ ((c.toNat : Int) != (k : Int)) = !decide (c = UInt8.ofNat k) := by
  have h : ((c.toNat : Int) == (k : Int)) = decide (c = UInt8.ofNat k) := by
    rw [Bool.eq_iff_iff, beq_iff_eq, decide_eq_true_eq]
    constructor
    · intro h
      apply UInt8.toNat_inj.1
      rw [UInt8.toNat_ofNat']
      omega
    · intro h
      rw [h, UInt8.toNat_ofNat']
      omega
  exact ⟨h, by rw [bne, h]⟩

end Go.Proofs.YtjnfnngobkjneaaGreatDoor
