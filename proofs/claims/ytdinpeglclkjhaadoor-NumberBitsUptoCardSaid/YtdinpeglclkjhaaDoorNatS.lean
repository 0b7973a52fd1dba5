/- The natural numbers of the program: windows. -/
import Derived.Test.YtdinpeglclkjhaaDoorNatR
namespace Go.Proofs.YtdinpeglclkjhaaDoor
open Go.RowKit Dg

theorem join_pow (c t : Nat) (ht : t < 32) : (c * 2 ^ (64 - t)) % 18446744073709551616 = 2 ^ (64 - t) * (c % 2 ^ t) := by
  have e : 18446744073709551616 = 2 ^ (64 - t) * 2 ^ t := by rw [← Nat.pow_add, show 64 - t + t = 64 by omega]
  rw [e, Nat.mul_comm c, Nat.mul_mod_mul_left]

theorem window_val {x s t : Nat} (ht : t < 32) :
    bits .or .u64 (((dg W32 x s : Nat) + (dg W32 x (s + 1) : Nat) * 4294967296 : Int) / 2 ^ t) (IntKind.u64.wrap ((dg W32 x (s + 2) : Nat) * 2 ^ (64 - t))) = ((x / 2 ^ (32 * s + t) % 18446744073709551616 : Nat) : Int) := by
  have h0 := dg_u32 x s
  have h1 := dg_u32 x (s + 1)
  have e : 18446744073709551616 = 2 ^ (64 - t) * 2 ^ t := by rw [← Nat.pow_add, show 64 - t + t = 64 by omega]
  have hW := W32_mul t ht
  have hp : 0 < 2 ^ t := Nat.pow_pos (by omega)
  have hp2 : 0 < 2 ^ (64 - t) := Nat.pow_pos (by omega)
  have e1 : (2 : Int) ^ t = ((2 ^ t : Nat) : Int) := by rw [Int.natCast_pow]; rfl
  have e2 : (2 : Int) ^ (64 - t) = ((2 ^ (64 - t) : Nat) : Int) := by rw [Int.natCast_pow]; rfl
  have hA : (dg W32 x s + dg W32 x (s + 1) * 4294967296) / 2 ^ t < 2 ^ (64 - t) := by
    refine Nat.div_lt_of_lt_mul ?_
    rw [Nat.mul_comm (2 ^ t), ← e]; omega
  have hx : x / 2 ^ (32 * s + t) = (dg W32 x s + dg W32 x (s + 1) * 4294967296) / 2 ^ t + 2 ^ (64 - t) * (x / W32 ^ (s + 2)) := by
    rw [pow_split, ← Nat.div_div_eq_div_mul, div_succ W32 x s, div_succ W32 x (s + 1)]
    have e3 : dg W32 x s + W32 * (dg W32 x (s + 1) + W32 * (x / W32 ^ (s + 1 + 1))) = (dg W32 x s + dg W32 x (s + 1) * 4294967296) + 2 ^ t * (2 ^ (64 - t) * (x / W32 ^ (s + 2))) := by
      show dg W32 x s + W32 * (dg W32 x (s + 1) + W32 * (x / W32 ^ (s + 2))) = _
      generalize x / W32 ^ (s + 2) = Z
      generalize dg W32 x s = a
      generalize dg W32 x (s + 1) = b
      rw [← Nat.mul_assoc (2 ^ t), Nat.mul_comm (2 ^ t), ← e, W32_val]; omega
    rw [e3, Nat.add_mul_div_left _ _ hp]
  have hc : (x / W32 ^ (s + 2)) % 2 ^ t = dg W32 x (s + 2) % 2 ^ t := by
    unfold dg; rw [Nat.mod_mod_of_dvd _ ⟨2 ^ (32 - t), hW⟩]
  have hr : x / 2 ^ (32 * s + t) % 18446744073709551616 = (dg W32 x s + dg W32 x (s + 1) * 4294967296) / 2 ^ t + 2 ^ (64 - t) * (dg W32 x (s + 2) % 2 ^ t) := by
    rw [e, Nat.mod_mul, hx, Nat.add_mul_mod_self_left, Nat.mod_eq_of_lt hA, Nat.add_mul_div_left _ _ hp2, Nat.div_eq_of_lt hA, Nat.zero_add, hc]
  rw [hr]
  have f1 : ((dg W32 x s : Nat) + (dg W32 x (s + 1) : Nat) * 4294967296 : Int) / 2 ^ t = (((dg W32 x s + dg W32 x (s + 1) * 4294967296) / 2 ^ t : Nat) : Int) := by
    rw [Int.natCast_ediv, e1]
    congr 1
  have f2 : IntKind.u64.wrap ((dg W32 x (s + 2) : Nat) * 2 ^ (64 - t)) = ((2 ^ (64 - t) * (dg W32 x (s + 2) % 2 ^ t) : Nat) : Int) := by
    rw [u64_mod, e2, ← Int.natCast_mul, ← join_pow _ t ht]; omega
  have hlt : 2 ^ (64 - t) * (dg W32 x (s + 2) % 2 ^ t) < 18446744073709551616 := by
    rw [← join_pow _ t ht]; exact Nat.mod_lt _ (by omega)
  have hA' : (dg W32 x s + dg W32 x (s + 1) * 4294967296) / 2 ^ t < 18446744073709551616 := Nat.lt_of_le_of_lt (Nat.div_le_self _ _) (by omega)
  rw [f1, f2, u64_or_nat _ _ hA' hlt, Nat.or_comm, nat_join (64 - t) _ _ (Nat.mul_mod_right _ _) hA, Nat.add_comm]

set_option maxHeartbeats 1000000 in
set_option maxRecDepth 100000 in
theorem window_any (va : Value) (x n : Nat) (w : World) (ha : Rep W32 w va x) (hx : x < W32 ^ 1000000000) (hn : n ≤ 100000000000) :
    Calls Tryd.prog 147 #[va, .int .i64 n] w fun e w' => e = .returned (.int .u64 (x / 2 ^ n % 18446744073709551616 : Nat)) ∧ ∃ q, w' = w.drewN q := by
  obtain ⟨pa, na, ca, rfl, hca, hla, hsa⟩ := ha
  have hna := hla.le W32_pos hx
  clear hx
  obtain ⟨s, t, hst, ht⟩ : ∃ s t, n = 32 * s + t ∧ t < 32 := ⟨n / 32, n % 32, by omega, by omega⟩
  have hs1 : s ≤ 100000000000 := by omega
  have hq : (n : Int) / 32 = (s : Int) := by omega
  have hnt : n % 32 = t := by omega
  have Hnt := hid hnt
  have Hst := hid hst
  have h0 := word_any pa na ca x s w (by omega) (by omega) hla.1 hsa
  have h1 := word_any pa na ca x (s + 1) w (by omega) (by omega) hla.1 hsa
  have h2 := fun q => word_any pa na ca x (s + 2) (w.drewN q) (by omega) (by omega) hla.1 (hsa.below (below_drewN (Below.refl _ _) q))
  have d0 := dg_u32 x s
  have d1 := dg_u32 x (s + 1)
  have d2 := dg_u32 x (s + 2)
  have hor := or_join64i (dg W32 x (s + 1)) (dg W32 x s) d1 d0
  have H2 := hid h2
  have Hw := hid (window_val (x := x) (s := s) ht)
  rw [← Hst.out] at Hw
  clear hst hnt h2 hla hsa
  generalize dg W32 x s = a at *
  generalize dg W32 x (s + 1) = b at *
  generalize dg W32 x (s + 2) = c at *
  go_enter Tryd.func147, Tryd.ntmps147
  go_wp2_with fail
  refine h0.mono ?_
  rintro e w' ⟨rfl, rfl⟩
  clear h0
  go_wp2_with fail
  refine h1.mono ?_
  rintro e w' ⟨rfl, rfl⟩
  clear h1
  go_wp2_with fail
  go_quiet ((go_at_call 128; exact quiet_gen (H2.out _)))
  go_wp2_with fail
  go_ret
  refine ⟨?_, _, rfl⟩
  refine congrArg (fun z => Ending.returned (.int .u64 z)) ?_
  rw [Hnt.out]
  exact Hw.out
end Go.Proofs.YtdinpeglclkjhaaDoor
