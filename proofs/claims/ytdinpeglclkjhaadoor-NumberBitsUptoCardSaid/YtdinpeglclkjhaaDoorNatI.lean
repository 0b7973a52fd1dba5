/- The natural numbers of the program: division by a word, the low words. -/
import Derived.Test.YtdinpeglclkjhaaDoorNatH
import Derived.Test.YtdinpeglclkjhaaDoorBase
namespace Go.Proofs.YtdinpeglclkjhaaDoor
open Go.RowKit Dg

theorem or_join64 (r a : Nat) (hr : r < 4294967296) (ha : a < 4294967296) : bits .or .u64 ((r : Int) * 4294967296) (a : Int) = ((r * 4294967296 + a : Nat) : Int) := by
  rw [show (r : Int) * 4294967296 = ((r * 4294967296 : Nat) : Int) by omega, u64_or_nat _ _ (by omega) (by omega), nat_join 32 _ _ (by omega) (by omega)]
theorem or_join64' (r a : Nat) (hr : r < 4294967296) (ha : a < 4294967296) : bits .or .u64 (a : Int) ((r : Int) * 4294967296) = ((a + r * 4294967296 : Nat) : Int) := by
  rw [show (r : Int) * 4294967296 = ((r * 4294967296 : Nat) : Int) by omega, u64_or_nat _ _ (by omega) (by omega), Nat.or_comm, nat_join 32 _ _ (by omega) (by omega), Nat.add_comm]

theorem divw_step {x d t q : Nat} (hd : 0 < d) (hq : q = ((x / W32 ^ (t + 1)) % d * W32 + dg W32 x t) / d) :
    q < W32 ∧ setd W32 (W32 ^ (t + 1) * ((x / W32 ^ (t + 1)) / d)) t q = W32 ^ t * ((x / W32 ^ t) / d) ∧ (x / W32 ^ t) % d = ((x / W32 ^ (t + 1)) % d * W32 + dg W32 x t) % d := by
  have hlt : q < W32 := by rw [hq]; exact divw_lt hd (dg_lt W32_pos)
  refine ⟨hlt, ?_, ?_⟩
  · have h1 := setd_val W32 (W32 ^ (t + 1) * ((x / W32 ^ (t + 1)) / d)) t q
    rw [dg_mul_pow_lt W32_pos (Nat.lt_succ_self t), Nat.mul_zero, Nat.add_zero] at h1
    rw [h1, div_succ W32 x t, divw_q hd, ← hq, Nat.pow_succ, Nat.mul_add, Nat.mul_assoc]
  · rw [div_succ W32 x t, divw_r]

theorem cast_join (R g : Nat) : ((R * 4294967296 + g : Nat) : Int) = (R : Int) * 4294967296 + g := by omega
theorem cast_quo (R g d : Nat) : ((((R * 4294967296 + g) / d : Nat)) : Int) = ((R : Int) * 4294967296 + g) / d := by rw [Int.natCast_ediv, cast_join]
theorem cast_rem (R g d : Nat) : ((((R * 4294967296 + g) % d : Nat)) : Int) = ((R : Int) * 4294967296 + g) % d := by rw [Int.natCast_emod, cast_join]
theorem cast_quo_small (R g d : Nat) (h : (R * 4294967296 + g) / d < 4294967296) : (((R : Int) * 4294967296 + g) / d) % 4294967296 = ((((R * 4294967296 + g) / d : Nat)) : Int) := by
  rw [← cast_quo]; generalize (R * 4294967296 + g) / d = q at *; omega

theorem div_lt_pow {x d n : Nat} (h : x < W32 ^ n) : x / d < W32 ^ n := Nat.lt_of_le_of_lt (Nat.div_le_self x d) h

set_option maxHeartbeats 400000 in
set_option maxRecDepth 100000 in
theorem divWord_any (va : Value) (x d : Nat) (w : World) (ha : Rep W32 w va x) (hx : x < W32 ^ 1000000000) (hd : 0 < d) (hd2 : d < 4294967296) :
    Calls Tryd.prog 134 #[va, .int .u32 d] w fun e w' => ∃ v, e = .returned (.tuple #[v, .int .u32 (x % d : Nat)]) ∧ Rep W32 w' v (x / d) ∧ Below w.heap.size w w' := by
  obtain ⟨pa, na, ca, rfl, hca, hla, hsa⟩ := ha
  have hna := hla.le W32_pos hx
  clear hx
  have hmk := Tryd.mk na (by omega)
  go_enter Tryd.func134, Tryd.ntmps134
  go_wp2_with fail
  clear hmk
  go_loopw [7, 8] (fun r i wr => ∃ k R Z : Nat, k ≤ na ∧ i = .int .i64 ((k : Int) - 1) ∧ r = .int .u64 R ∧ R < d ∧ R = (x / W32 ^ k) % d ∧ Z = W32 ^ k * ((x / W32 ^ k) / d) ∧ Mk W32 w wr na Z) (fun _ i _ => (intOf i + 1).toNat)
  case atStart => exact ⟨na, 0, 0, by omega, rfl, rfl, hd, by rw [div_pow_zero hla.1]; simp, by rw [div_pow_zero hla.1]; simp, Mk.start _ _ _⟩
  case round =>
    obtain ⟨k, R, Z, hk, rfl, rfl, hRd, hR, hZ, hM⟩ := hrel
    rcases Nat.eq_zero_or_pos k with h0 | h0
    · subst h0
      have HR : Hid (R = x % d) := by show R = x % d; simpa using hR
      have HZ : Hid (Z = x / d) := by show Z = x / d; simpa using hZ
      have hsl := hM.slc
      have hbel := hM.bel
      have hZl : Z < W32 ^ na := by rw [HZ.out]; exact div_lt_pow hla.1
      clear hR hZ hM hsa
      go_wp2_with fail
      refine (Of_any _ _ _ Z _ (by omega) (Nat.le_refl _) hZl hsl).mono ?_
      rintro e w' ⟨m, rfl, hm, hlen, rfl⟩
      go_wp2_with fail
      go_ret2
      rw [← HZ.out, ← HR.out]
      exact ⟨_, rfl, ⟨_, _, _, rfl, hm, hlen, hsl.take (by omega)⟩, hbel⟩
    · obtain ⟨t, rfl⟩ : ∃ t, k = t + 1 := ⟨k - 1, by omega⟩
      have hsa' := hsa.below hM.bel
      obtain ⟨b1, o1, rfl, hc1⟩ := hsa' (by omega)
      have hk1 := hc1 t (by omega)
      have e1 : ((t + 1 : Nat) : Int) - 1 = t := by omega
      rw [e1]
      clear e1
      have HS : Hid (∀ q, q = (R * W32 + dg W32 x t) / d → q < W32 ∧ setd W32 Z t q = W32 ^ t * ((x / W32 ^ t) / d) ∧ (x / W32 ^ t) % d = (R * W32 + dg W32 x t) % d) := fun q hq => by
        rw [hR] at hq ⊢; rw [hZ]; exact divw_step hd hq
      have hdx := dg_u32 x t
      have hor := or_join64 R (dg W32 x t) (by omega) hdx
      have hcell := hM.cell (show t < na by omega)
      have hfrz := hM.row.frozen t
      clear hR hZ hc1 hsa
      generalize dg W32 x t = g at *
      have hb1 : R * 4294967296 + g < 18446744073709551616 := by omega
      go_wp2_with fail
      go_roundw
      case rel =>
        obtain ⟨h1, h2, h3⟩ := HS.out _ rfl
        have hs := hM.set W32_pos t _ h1
        rw [W32_val] at h1 h3 hs
        refine ⟨t, (R * 4294967296 + g) % d, _, by omega, rfl, congrArg (Value.int .u64) (cast_rem R g d).symm, Nat.mod_lt _ hd, h3.symm, h2, ?_⟩
        first
          | (rw [cast_quo_small R g d h1]; exact hs)
          | (rw [← cast_quo]; exact hs)
      case measure => simp [intOf]

/-! ### The low words -/
theorem low_val {x n : Nat} (h : x < W32 ^ n) (hn : n ≤ 2) : dg W32 x 0 + dg W32 x 1 * 4294967296 = x := by
  have h2 : x < W32 ^ 2 := Nat.lt_of_lt_of_le h (Nat.pow_le_pow_right W32_pos hn)
  have e1 := mod_succ W32 x 1
  have e0 := mod_succ W32 x 0
  simp only [Nat.pow_zero, Nat.mod_one, Nat.zero_add, Nat.one_mul, Nat.pow_one] at e0 e1
  rw [Nat.mod_eq_of_lt h2, e0, Nat.mul_comm, W32_val] at e1
  exact e1.symm

set_option maxRecDepth 100000 in
theorem low_any (va : Value) (x : Nat) (w : World) (ha : Rep W32 w va x) (hx : x < W32 ^ 2) :
    Calls Tryd.prog 146 #[va] w fun e w' => e = .returned (.int .u64 x) ∧ w = w' := by
  obtain ⟨pa, na, ca, rfl, hca, hla, hsa⟩ := ha
  have hna := hla.le W32_pos hx
  have hv := low_val hla.1 hna
  have h0 := word_any pa na ca x 0 w (by omega) (by omega) hla.1 hsa
  have h1 := word_any pa na ca x 1 w (by omega) (by omega) hla.1 hsa
  have d0 := dg_u32 x 0
  have d1 := dg_u32 x 1
  have hor := or_join64' (dg W32 x 1) (dg W32 x 0) d1 d0
  generalize dg W32 x 0 = a at *
  generalize dg W32 x 1 = b at *
  have HV : Hid (a + b * 4294967296 = x) := hv
  clear hx hla hsa hv
  go_enter Tryd.func146, Tryd.ntmps146
  go_wp2_with fail
  refine h0.mono ?_
  rintro e w' ⟨rfl, rfl⟩
  go_wp2_with fail
  refine h1.mono ?_
  rintro e w' ⟨rfl, rfl⟩
  clear h0 h1
  go_wp2_with fail
  go_ret
  exact ⟨by rw [← HV.out]; rfl, rfl⟩
end Go.Proofs.YtdinpeglclkjhaaDoor
