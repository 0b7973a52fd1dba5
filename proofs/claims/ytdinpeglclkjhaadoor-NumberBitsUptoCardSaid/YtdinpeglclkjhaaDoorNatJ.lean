/- The natural numbers of the program: shifts. -/
import Derived.Test.YtdinpeglclkjhaaDoorNatI
namespace Go.Proofs.YtdinpeglclkjhaaDoor
open Go.RowKit Dg

theorem hid {p : Prop} (h : p) : Hid p := h
theorem pow_split (s t : Nat) : 2 ^ (32 * s + t) = W32 ^ s * 2 ^ t := by rw [Nat.pow_add, ← W32_pow]
theorem W32_mul (t : Nat) (ht : t < 32) : W32 = 2 ^ t * 2 ^ (32 - t) := by rw [← Nat.pow_add, show t + (32 - t) = 32 by omega]; rfl

theorem shl_step {x k s t g Z : Nat} (ht : t < 32) (hg : g = dg W32 x k) (hZ : Z = (x % W32 ^ k) * 2 ^ (32 * s + t)) :
    g * 2 ^ t < 18446744073709551616 ∧ (dg W32 Z (k + s) ||| (g * 2 ^ t % 4294967296)) = dg W32 Z (k + s) + g * 2 ^ t % 4294967296 ∧
    dg W32 Z (k + s) + g * 2 ^ t % 4294967296 < W32 ∧ g * 2 ^ t / 4294967296 < W32 ∧
    setd W32 (setd W32 Z (k + s) (dg W32 Z (k + s) + g * 2 ^ t % 4294967296)) (k + s + 1) (g * 2 ^ t / 4294967296) = (x % W32 ^ (k + 1)) * 2 ^ (32 * s + t) := by
  have hgl : g < 4294967296 := by rw [hg]; exact dg_u32 x k
  have h2t : 0 < 2 ^ t := Nat.pow_pos (by omega)
  have h2t' : 2 ^ t ≤ 2 ^ 31 := Nat.pow_le_pow_right (by omega) (by omega)
  have hy : g * 2 ^ t ≤ 4294967295 * 2147483648 := Nat.mul_le_mul (by omega) (by omega)
  have hW := W32_mul t ht
  have hP : 0 < W32 ^ (k + s) := Nat.pow_pos W32_pos
  have hZ2 : Z = W32 ^ s * ((x % W32 ^ k) * 2 ^ t) := by rw [hZ, pow_split]; grind
  have hZlt : Z < W32 ^ (k + s) * 2 ^ t := by
    have h1 : x % W32 ^ k < W32 ^ k := Nat.mod_lt _ (Nat.pow_pos W32_pos)
    rw [hZ2, Nat.pow_add, Nat.mul_comm (W32 ^ k), Nat.mul_assoc]
    exact Nat.mul_lt_mul_of_pos_left (Nat.mul_lt_mul_of_pos_right h1 h2t) (Nat.pow_pos W32_pos)
  have hZlt2 : Z < W32 ^ (k + s + 1) := by
    have : W32 ^ (k + s) * 2 ^ t ≤ W32 ^ (k + s) * W32 := Nat.mul_le_mul_left _ (by rw [W32_val]; omega)
    rw [Nat.pow_succ]; omega
  have hp : dg W32 Z (k + s) < 2 ^ t := by
    rw [dg_top hZlt2]
    exact Nat.div_lt_of_lt_mul hZlt
  have hlo : (g * 2 ^ t % 4294967296) % 2 ^ t = 0 := by
    rw [← W32_val, hW, Nat.mul_comm g, Nat.mul_mod_mul_left, Nat.mul_mod_right]
  have hsum : dg W32 Z (k + s) + g * 2 ^ t % 4294967296 < W32 := by
    have e := Nat.div_add_mod (g * 2 ^ t % 4294967296) (2 ^ t)
    rw [hlo, Nat.add_zero] at e
    have hq : g * 2 ^ t % 4294967296 < 2 ^ t * 2 ^ (32 - t) := by rw [← hW, W32_val]; exact Nat.mod_lt _ (by omega)
    rw [← e] at hq
    have hq2 := Nat.lt_of_mul_lt_mul_left hq
    have : 2 ^ t * (g * 2 ^ t % 4294967296 / 2 ^ t + 1) ≤ 2 ^ t * 2 ^ (32 - t) := Nat.mul_le_mul_left _ hq2
    rw [Nat.mul_add, e, ← hW] at this
    omega
  have hhi : g * 2 ^ t / 4294967296 < W32 := by rw [W32_val]; omega
  refine ⟨by omega, ?_, hsum, hhi, ?_⟩
  · rw [Nat.or_comm, nat_join t _ _ hlo hp, Nat.add_comm]
  · have v1 := setd_val W32 Z (k + s) (dg W32 Z (k + s) + g * 2 ^ t % 4294967296)
    have v2 := setd_val W32 (setd W32 Z (k + s) (dg W32 Z (k + s) + g * 2 ^ t % 4294967296)) (k + s + 1) (g * 2 ^ t / 4294967296)
    rw [dg_setd W32_pos hsum, if_neg (by omega), dg_zero hZlt2, Nat.mul_zero, Nat.add_zero] at v2
    rw [Nat.mul_add] at v1
    rw [v2, mod_succ, Nat.add_mul, ← hZ, ← hg, pow_split]
    have e3 : W32 ^ k * g * (W32 ^ s * 2 ^ t) = W32 ^ (k + s) * (g * 2 ^ t) := by rw [Nat.pow_add]; grind
    have e4 : W32 ^ (k + s) * (g * 2 ^ t) = W32 ^ (k + s) * (g * 2 ^ t % 4294967296) + W32 ^ (k + s + 1) * (g * 2 ^ t / 4294967296) := by
      have := Nat.mod_add_div (g * 2 ^ t) 4294967296
      rw [Nat.pow_succ, Nat.mul_assoc, ← Nat.mul_add, W32_val, this]
    rw [e3, e4]
    omega

theorem u64_pow (g t : Nat) (h : g * 2 ^ t < 18446744073709551616) : IntKind.u64.wrap ((g : Int) * 2 ^ t) = ((g * 2 ^ t : Nat) : Int) := by
  rw [u64_mod, show (g : Int) * 2 ^ t = ((g * 2 ^ t : Nat) : Int) by push_cast; first | done | rfl]
  omega

set_option maxHeartbeats 1000000 in
set_option maxRecDepth 100000 in
theorem Shl_any (va : Value) (x n : Nat) (w : World) (ha : Rep W32 w va x) (hx : x < W32 ^ 1000000000) (hn : n ≤ 1000000000) :
    Calls Tryd.prog 118 #[va, .int .i64 n] w fun e w' => ∃ v, e = .returned v ∧ Rep W32 w' v (x * 2 ^ n) ∧ Below w.heap.size w w' := by
  obtain ⟨pa, na, ca, rfl, hca, hla, hsa⟩ := ha
  have hna := hla.le W32_pos hx
  clear hx
  by_cases hn0 : n = 0
  · subst hn0
    go_enter Tryd.func118, Tryd.ntmps118
    go_wp2_with fail
    go_ret
    exact ⟨_, rfl, ⟨_, _, _, rfl, hca, by simpa using hla, by simpa using hsa⟩, Below.refl _ _⟩
  · have hnz : ((n : Int) == 0) = false := by simp; omega
    rcases Nat.eq_zero_or_pos na with h0 | h0
    · subst h0
      go_enter Tryd.func118, Tryd.ntmps118
      go_wp2_with fail
      go_ret
      obtain rfl := hla.eq_zero
      exact ⟨_, rfl, ⟨_, _, _, rfl, hca, by simpa using hla, by simpa using hsa⟩, Below.refl _ _⟩
    · have hnaz : ((na : Int) == 0) = false := by simp; omega
      obtain ⟨s, t, hst, ht⟩ : ∃ s t, n = 32 * s + t ∧ t < 32 := ⟨n / 32, n % 32, by omega, by omega⟩
      have hs1 : s ≤ 1000000000 := by omega
      have hq : (n : Int) / 32 = (s : Int) := by omega
      have hr : (n : Int) % 32 = (t : Int) := by omega
      have Hst : Hid (n = 32 * s + t) := hst
      clear hst
      have hmk := Tryd.mk (na + s + 1) (by omega)
      simp only [Int.natCast_add, Int.cast_ofNat_Int] at hmk
      go_enter Tryd.func118, Tryd.ntmps118
      go_wp2_with fail
      clear hmk hq hr hnaz
      go_loopw [31] (fun i wr => ∃ k Z : Nat, k ≤ na ∧ i = .int .i64 k ∧ Z = (x % W32 ^ k) * 2 ^ n ∧ Mk W32 w wr (na + s + 1) Z) (fun i _ => na - (intOf i).toNat)
      case atStart => exact ⟨0, 0, by omega, rfl, by simp [Nat.mod_one], Mk.start _ _ _⟩
      case round =>
        obtain ⟨k, Z, hk, rfl, hZ, hM⟩ := hrel
        by_cases hlt : k < na
        · have hsa' := hsa.below hM.bel
          obtain ⟨b1, o1, rfl, hc1⟩ := hsa' (by omega)
          have hk1 := hc1 k (by omega)
          have hdx := dg_u32 x k
          have hcell := hM.cell (show k + s < na + s + 1 by omega)
          have hfrz := hM.row.frozen (k + s)
          have hfrz2 := hM.row.frozen (k + s + 1)
          have hcell2 := hM.cell (show k + s + 1 < na + s + 1 by omega)
          have HS := hid (shl_step (Z := Z) (s := s) ht (rfl : dg W32 x k = dg W32 x k) (by rw [← Hst.out]; exact hZ))
          have hpx := dg_u32 Z (k + s)
          have hnt : n % 32 = t := by have := Hst.out; omega
          have Hnt : Hid (n % 32 = t) := hnt
          clear hZ hc1 hsa hnt
          generalize dg W32 x k = g at *
          go_wp2_with fail
          go_roundw
          case rel =>
            obtain ⟨h1, h2, h3, h4, h5⟩ := HS.out
            refine ⟨k + 1, _, by omega, by go_num, rfl, ?_⟩
            have hset := (hM.set W32_pos (k + s) _ h3).set W32_pos (k + s + 1) _ h4
            rw [h5, ← Hst.out] at hset
            rw [Hnt.out, u64_pow g t h1, show (((g * 2 ^ t : Nat) : Int)) % 4294967296 = ((g * 2 ^ t % 4294967296 : Nat) : Int) by omega,
              show (((g * 2 ^ t : Nat) : Int)) / 4294967296 % 4294967296 = ((g * 2 ^ t / 4294967296 : Nat) : Int) by omega,
              u32_or_nat _ _ hpx (Nat.mod_lt _ (by omega)), h2]
            exact hset
          case measure => simp [intOf]; omega
        · have hk' : k = na := by omega
          subst hk'
          rw [Nat.mod_eq_of_lt hla.1] at hZ
          have hZl : Z < W32 ^ (k + s + 1) := by
            rw [hZ, Hst.out, pow_split, show k + s + 1 = k + (s + 1) by omega]
            refine mul_lt hla.1 ?_
            rw [Nat.pow_succ]
            exact Nat.mul_lt_mul_of_pos_left (by rw [W32_val]; exact Nat.pow_lt_pow_right (by omega) ht) (Nat.pow_pos W32_pos)
          have HZ : Hid (Z = x * 2 ^ n) := hZ
          have hsl := hM.slc
          have hbel := hM.bel
          clear hZ hM hsa
          go_wp2_with fail
          refine (Of_any _ _ _ Z _ (by omega) (Nat.le_refl _) hZl hsl).mono ?_
          rintro e w' ⟨m, rfl, hm, hlen, rfl⟩
          go_wp2_with fail
          go_ret
          rw [← HZ.out]
          exact ⟨_, rfl, ⟨_, _, _, rfl, hm, hlen, hsl.take (by omega)⟩, hbel⟩
end Go.Proofs.YtdinpeglclkjhaaDoor
