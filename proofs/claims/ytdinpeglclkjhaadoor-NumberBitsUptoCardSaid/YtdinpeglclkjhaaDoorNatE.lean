/- The natural numbers of the program: Mul. -/
import Derived.Test.YtdinpeglclkjhaaDoorNatD
namespace Go.Proofs.YtdinpeglclkjhaaDoor
open Go.RowKit Dg

theorem mul_lt {x y a b : Nat} (hx : x < W32 ^ a) (hy : y < W32 ^ b) : x * y < W32 ^ (a + b) := by
  rw [Nat.pow_add]
  rcases Nat.eq_zero_or_pos y with h | h
  · subst h; exact Nat.mul_pos (Nat.pow_pos W32_pos) (Nat.pow_pos W32_pos)
  · exact Nat.lt_of_lt_of_le (Nat.mul_lt_mul_of_pos_right hx h) (Nat.mul_le_mul_left _ (Nat.le_of_lt hy))

set_option maxHeartbeats 1000000 in
set_option maxRecDepth 100000 in
theorem Mul_any (va vb : Value) (x y : Nat) (w : World) (ha : Rep W32 w va x) (hb : Rep W32 w vb y) (hx : x < W32 ^ 1000000000) (hy : y < W32 ^ 1000000000) :
    Calls Tryd.prog 104 #[va, vb] w fun e w' => ∃ v, e = .returned v ∧ Rep W32 w' v (x * y) ∧ Below w.heap.size w w' := by
  obtain ⟨pa, na, ca, rfl, hca, hla, hsa⟩ := ha
  obtain ⟨pb, nb, cb, rfl, hcb, hlb, hsb⟩ := hb
  have hna := hla.le W32_pos hx
  have hnb := hlb.le W32_pos hy
  clear hx hy
  have hmk := Tryd.mk (na + nb) (by omega)
  simp only [Int.natCast_add] at hmk
  go_enter Tryd.func104, Tryd.ntmps104
  go_wp2
  clear hmk
  go_loopw [19] (fun i wr => ∃ k X : Nat, k ≤ na ∧ i = .int .i64 k ∧ X = (x % W32 ^ k) * y ∧ Mk W32 w wr (na + nb) X) (fun i _ => na - (intOf i).toNat)
  case atStart => exact ⟨0, 0, by omega, rfl, by simp [Nat.mod_one], Mk.start _ _ _⟩
  case round =>
    obtain ⟨k, X, hk, rfl, hX, hM⟩ := hrel
    by_cases hlt : k < na
    · have hsa' := hsa.below hM.bel
      obtain ⟨b0, o0, rfl, hca0⟩ := hsa' (by omega)
      have hca1 := hca0 k hlt
      have hda := dg_u32 x k
      have hXs : (x % W32 ^ (k + 1)) * y = X + W32 ^ k * (dg W32 x k * y) := by rw [mod_succ, hX, Nat.add_mul, Nat.mul_assoc]
      have HXs : Hid ((x % W32 ^ (k + 1)) * y = X + W32 ^ k * (dg W32 x k * y)) := hXs
      have hXlt : X < W32 ^ (k + nb) := by rw [hX]; exact mul_lt (Nat.mod_lt _ (Nat.pow_pos W32_pos)) hlb.1
      have HXlt : Hid (X < W32 ^ (k + nb)) := hXlt
      clear hX hXs hXlt hca0 hsa
      generalize dg W32 x k = d at *
      by_cases hd : d = 0
      · subst hd
        have hX' : X = (x % W32 ^ (k + 1)) * y := by rw [HXs.out]; simp
        have HX' : Hid (X = (x % W32 ^ (k + 1)) * y) := hX'
        clear hX' HXs HXlt
        go_wp2_with fail
        go_roundw
        case rel => exact ⟨k + 1, X, by omega, by go_num, HX'.out, hM⟩
        case measure => simp [intOf]; omega
      · have hdz : ((d : Int) == 0) = false := by simpa using hd
        go_wp2_with fail
        clear hca1
        go_loopw [8, 28] (fun c i wi => ∃ j Z cc : Nat, j ≤ nb ∧ i = .int .i64 j ∧ c = .int .u64 cc ∧ cc < 4294967296 ∧ Z + W32 ^ (k + j) * cc = X + W32 ^ k * (d * (y % W32 ^ j)) ∧ (∀ t, k + j ≤ t → dg W32 Z t = dg W32 X t) ∧ Mk W32 w wi (na + nb) Z) (fun _ i _ => nb - (intOf i).toNat)
        case atStart => exact ⟨0, X, 0, by omega, rfl, rfl, by omega, by simp [Nat.mod_one], fun _ _ => rfl, hM⟩
        case round =>
          obtain ⟨j, Z, c, hj, rfl, rfl, hc, hZ, hZt, hN⟩ := hrel
          have HZ : Hid (Z + W32 ^ (k + j) * c = X + W32 ^ k * (d * (y % W32 ^ j))) := hZ
          have HZt : Hid (∀ t, k + j ≤ t → dg W32 Z t = dg W32 X t) := hZt
          clear hZ hZt hM
          by_cases hjl : j < nb
          · have hsb' := hsb.below hN.bel
            obtain ⟨b1, o1, rfl, hcb0⟩ := hsb' (by omega)
            have hcb1 := hcb0 j hjl
            have hv := dg_u32 y j
            have hp := dg_u32 Z (k + j)
            have hcell := hN.cell (show k + j < na + nb by omega)
            have hfrz := hN.row.frozen (k + j)
            have HR : Hid (∀ s c', s + W32 * c' = c + d * dg W32 y j + dg W32 Z (k + j) → setd W32 Z (k + j) s + W32 ^ (k + (j + 1)) * c' = X + W32 ^ k * (d * (y % W32 ^ (j + 1)))) := fun s c' h => mul_round HZ.out h
            clear hcb0 hsb
            generalize dg W32 y j = v at *
            generalize dg W32 Z (k + j) = p at *
            have hdv0 : (d * v : Nat) ≤ 4294967295 * 4294967295 := Nat.mul_le_mul (by omega) (by omega)
            have hdv : (d : Int) * (v : Int) ≤ 18446744065119617025 := by have : ((d * v : Nat) : Int) ≤ 18446744065119617025 := by omega
                                                                          rwa [Int.natCast_mul] at this
            have hdv1 : 0 ≤ (d : Int) * (v : Int) := Int.mul_nonneg (by omega) (by omega)
            go_wp2_with fail
            go_roundw
            case rel =>
              have hcast : (d : Int) * (v : Int) = ((d * v : Nat) : Int) := (Int.natCast_mul d v).symm
              have hs : (c + d * v + p) % 4294967296 < W32 := Nat.mod_lt _ (by decide)
              refine ⟨j + 1, setd W32 Z (k + j) ((c + d * v + p) % 4294967296), (c + d * v + p) / 4294967296, by omega, by go_num, congrArg (Value.int .u64) (by rw [hcast]; omega), by omega, HR.out _ _ (by rw [W32_val]; omega), fun t ht => ?_, ?_⟩
              · rw [dg_setd W32_pos hs, if_neg (by omega)]; exact HZt.out t (by omega)
              · have := hN.set W32_pos (k + j) _ hs
                rw [show (((c + d * v + p) % 4294967296 : Nat) : Int) = ((c : Int) + ((d : Int) * v + p)) % 4294967296 by rw [hcast]; omega] at this
                exact this
            case measure => simp [intOf]; omega
          · have hj' : j = nb := by omega
            subst hj'
            have hfrz := hN.row.frozen (k + j)
            have hcell := hN.cell (show k + j < na + j by omega)
            have h0 : dg W32 Z (k + j) = 0 := by rw [HZt.out _ (Nat.le_refl _)]; exact dg_zero HXlt.out
            have hZe : setd W32 Z (k + j) c = (x % W32 ^ (k + 1)) * y := by
              have h1 := setd_val W32 Z (k + j) c
              rw [h0, Nat.mul_zero, Nat.add_zero, HZ.out, Nat.mod_eq_of_lt hlb.1] at h1
              rw [h1, HXs.out]
            have HZe : Hid (setd W32 Z (k + j) c = (x % W32 ^ (k + 1)) * y) := hZe
            clear h0 hZe
            go_wp2_with fail
            go_roundw
            case rel => exact ⟨k + 1, setd W32 Z (k + j) c, by omega, by go_num, HZe.out, hN.set W32_pos (k + j) c hc⟩
            case measure => simp [intOf]; omega
    · have hk' : k = na := by omega
      subst hk'
      rw [Nat.mod_eq_of_lt hla.1] at hX
      have hXl : X < W32 ^ (k + nb) := by rw [hX]; exact mul_lt hla.1 hlb.1
      have hsl := hM.slc
      have hbel := hM.bel
      have HX : Hid (X = x * y) := hX
      clear hM hX hsa hsb
      go_wp2_with fail
      refine (Of_any _ _ _ X _ (by omega) (Nat.le_refl _) hXl hsl).mono ?_
      rintro e w' ⟨m, rfl, hm, hlen, rfl⟩
      go_wp2_with fail
      go_ret
      rw [← HX.out]
      exact ⟨_, rfl, ⟨_, _, _, rfl, hm, hlen, hsl.take (by omega)⟩, hbel⟩
end Go.Proofs.YtdinpeglclkjhaaDoor
