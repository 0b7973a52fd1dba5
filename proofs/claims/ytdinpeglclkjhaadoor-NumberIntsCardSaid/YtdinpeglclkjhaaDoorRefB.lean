/- The natural numbers of the specification: NatMul. -/
import Derived.Test.YtdinpeglclkjhaaDoorRefA
namespace Go.Proofs.YtdinpeglclkjhaaDoor
open Go.RowKit Dg

theorem dg_16 (x j : Nat) : dg B16 x j < 65536 := dg_lt B16_pos
theorem mul_lt16 {x y a b : Nat} (hx : x < B16 ^ a) (hy : y < B16 ^ b) : x * y < B16 ^ (a + b) := by
  rw [Nat.pow_add]
  rcases Nat.eq_zero_or_pos y with h | h
  · subst h; exact Nat.mul_pos (Nat.pow_pos B16_pos) (Nat.pow_pos B16_pos)
  · exact Nat.lt_of_lt_of_le (Nat.mul_lt_mul_of_pos_right hx h) (Nat.mul_le_mul_left _ (Nat.le_of_lt hy))

theorem Tryd.mkN (N : Nat) (hN : N ≤ 2000000000) : ∀ w : World, (Instr.makeSlice 32 (.int .i64 (N : Int)) (.int .i64 (N : Int))).run Tryd.prog w = .ok (.slice (some ⟨w.heap.size, 0, none⟩) N N) (w.alloc (.cells (madeCells #[.int .u32 0] N) 58)) := fun w =>
    run_make_row' (P := Tryd.prog) 32 58 (.int .u32 0) 4 Tryd.underlying32 Tryd.infoU32 rfl .i64 .i64 N (by omega) (by omega) w

set_option maxHeartbeats 1000000 in
set_option maxRecDepth 100000 in
theorem NatMul_any (va vb : Value) (x y : Nat) (w : World) (ha : Rep B16 w va x) (hb : Rep B16 w vb y) (hx : x < B16 ^ 1000000000) (hy : y < B16 ^ 1000000000) :
    Calls Tryd.prog 65 #[va, vb] w fun e w' => ∃ v, e = .returned v ∧ Rep B16 w' v (x * y) ∧ Below w.heap.size w w' := by
  obtain ⟨pa, na, ca, rfl, hca, hla, hsa⟩ := ha
  obtain ⟨pb, nb, cb, rfl, hcb, hlb, hsb⟩ := hb
  have hna := hla.le B16_pos hx
  have hnb := hlb.le B16_pos hy
  have hza := hla.zero_iff B16_pos
  have hzb := hlb.zero_iff B16_pos
  clear hx hy
  by_cases h0 : na = 0 ∨ nb = 0
  · have hxy : x * y = 0 := by rcases h0 with h | h; (rw [hza.2 h, Nat.zero_mul]); (rw [hzb.2 h, Nat.mul_zero])
    rw [hxy]
    clear hxy hza hzb hla hlb hsa hsb
    rcases h0 with h | h
    · subst h
      go_enter Tryd.func65, Tryd.ntmps65
      go_wp2_with fail
      go_ret
      exact ⟨_, rfl, Rep.nil, Below.refl _ _⟩
    · subst h
      by_cases ha0 : na = 0
      · subst ha0
        go_enter Tryd.func65, Tryd.ntmps65
        go_wp2_with fail
        go_ret
        exact ⟨_, rfl, Rep.nil, Below.refl _ _⟩
      · have hf : ((na : Int) == 0) = false := by simpa using ha0
        go_enter Tryd.func65, Tryd.ntmps65
        go_wp2_with fail
        go_ret
        exact ⟨_, rfl, Rep.nil, Below.refl _ _⟩
  · have hfa : ((na : Int) == 0) = false := by simp; omega
    have hfb : ((nb : Int) == 0) = false := by simp; omega
    have hmk := Tryd.mkN (na + nb) (by omega)
    simp only [Int.natCast_add] at hmk
    clear hza hzb
    go_enter Tryd.func65, Tryd.ntmps65
    go_wp2_with fail
    clear hmk
    go_loopw [28] (fun i wr => ∃ k X : Nat, k ≤ na ∧ i = .int .i64 k ∧ X = (x % B16 ^ k) * y ∧ Mk B16 w wr (na + nb) X) (fun i _ => na - (intOf i).toNat)
    case atStart => exact ⟨0, 0, by omega, rfl, by simp [Nat.mod_one], Mk.start _ _ _⟩
    case round =>
      obtain ⟨k, X, hk, rfl, hX, hM⟩ := hrel
      by_cases hlt : k < na
      · have hsa' := hsa.below hM.bel
        obtain ⟨b0, o0, rfl, hca0⟩ := hsa' (by omega)
        have hca1 := hca0 k hlt
        have hda := dg_16 x k
        have hXs : (x % B16 ^ (k + 1)) * y = X + B16 ^ k * (dg B16 x k * y) := by rw [mod_succ, hX, Nat.add_mul, Nat.mul_assoc]
        have HXs : Hid ((x % B16 ^ (k + 1)) * y = X + B16 ^ k * (dg B16 x k * y)) := hXs
        have hXlt : X < B16 ^ (k + nb) := by rw [hX]; exact mul_lt16 (Nat.mod_lt _ (Nat.pow_pos B16_pos)) hlb.1
        have HXlt : Hid (X < B16 ^ (k + nb)) := hXlt
        clear hX hXs hXlt hca0 hsa
        generalize dg B16 x k = d at *
        go_wp2_with fail
        clear hca1
        go_loopw [8, 35] (fun c i wi => ∃ j Z cc : Nat, j ≤ nb ∧ i = .int .i64 j ∧ c = .int .u64 cc ∧ cc < 65536 ∧ Z + B16 ^ (k + j) * cc = X + B16 ^ k * (d * (y % B16 ^ j)) ∧ (∀ t, k + j ≤ t → dg B16 Z t = dg B16 X t) ∧ Mk B16 w wi (na + nb) Z) (fun _ i _ => nb - (intOf i).toNat)
        case atStart => exact ⟨0, X, 0, by omega, rfl, rfl, by omega, by simp [Nat.mod_one], fun _ _ => rfl, hM⟩
        case round =>
          obtain ⟨j, Z, c, hj, rfl, rfl, hc, hZ, hZt, hN⟩ := hrel
          have HZ : Hid (Z + B16 ^ (k + j) * c = X + B16 ^ k * (d * (y % B16 ^ j))) := hZ
          have HZt : Hid (∀ t, k + j ≤ t → dg B16 Z t = dg B16 X t) := hZt
          clear hZ hZt hM
          by_cases hjl : j < nb
          · have hsb' := hsb.below hN.bel
            obtain ⟨b1, o1, rfl, hcb0⟩ := hsb' (by omega)
            have hcb1 := hcb0 j hjl
            have hv := dg_16 y j
            have hp := dg_16 Z (k + j)
            have hcell := hN.cell (show k + j < na + nb by omega)
            have hfrz := hN.row.frozen (k + j)
            have HR : Hid (∀ s c', s + B16 * c' = c + d * dg B16 y j + dg B16 Z (k + j) → setd B16 Z (k + j) s + B16 ^ (k + (j + 1)) * c' = X + B16 ^ k * (d * (y % B16 ^ (j + 1)))) := fun s c' h => mul_round HZ.out h
            clear hcb0 hsb
            generalize dg B16 y j = v at *
            generalize dg B16 Z (k + j) = p at *
            have hdv0 : (d * v : Nat) ≤ 65535 * 65535 := Nat.mul_le_mul (by omega) (by omega)
            have hdv : (d : Int) * (v : Int) ≤ 4294836225 := by have : ((d * v : Nat) : Int) ≤ 4294836225 := by omega
                                                                rwa [Int.natCast_mul] at this
            have hdv1 : 0 ≤ (d : Int) * (v : Int) := Int.mul_nonneg (by omega) (by omega)
            go_wp2_with fail
            go_roundw
            case rel =>
              have hcast : (d : Int) * (v : Int) = ((d * v : Nat) : Int) := (Int.natCast_mul d v).symm
              have hs : (c + d * v + p) % 65536 < B16 := Nat.mod_lt _ (by decide)
              refine ⟨j + 1, setd B16 Z (k + j) ((c + d * v + p) % 65536), (c + d * v + p) / 65536, by omega, by go_num, congrArg (Value.int .u64) (by rw [hcast]; omega), by omega, HR.out _ _ (by rw [B16_val]; omega), fun t ht => ?_, ?_⟩
              · rw [dg_setd B16_pos hs, if_neg (by omega)]; exact HZt.out t (by omega)
              · have := hN.set B16_pos (k + j) _ hs
                rw [show (((c + d * v + p) % 65536 : Nat) : Int) = ((p : Int) + (d : Int) * v + c) % 65536 by rw [hcast]; omega] at this
                exact this
            case measure => simp [intOf]; omega
          · have hj' : j = nb := by omega
            subst hj'
            have hfrz := hN.row.frozen (k + j)
            have hcell := hN.cell (show k + j < na + j by omega)
            have h0' : dg B16 Z (k + j) = 0 := by rw [HZt.out _ (Nat.le_refl _)]; exact dg_zero HXlt.out
            have hZe : setd B16 Z (k + j) c = (x % B16 ^ (k + 1)) * y := by
              have h1 := setd_val B16 Z (k + j) c
              rw [h0', Nat.mul_zero, Nat.add_zero, HZ.out, Nat.mod_eq_of_lt hlb.1] at h1
              rw [h1, HXs.out]
            have HZe : Hid (setd B16 Z (k + j) c = (x % B16 ^ (k + 1)) * y) := hZe
            clear h0' hZe
            go_wp2_with fail
            go_roundw
            case rel => exact ⟨k + 1, setd B16 Z (k + j) c, by omega, by go_num, HZe.out, hN.set B16_pos (k + j) c hc⟩
            case measure => simp [intOf]; omega
      · have hk' : k = na := by omega
        subst hk'
        rw [Nat.mod_eq_of_lt hla.1] at hX
        have hXl : X < B16 ^ (k + nb) := by rw [hX]; exact mul_lt16 hla.1 hlb.1
        have hsl := hM.slc
        have hbel := hM.bel
        have HX : Hid (X = x * y) := hX
        clear hM hX hsa hsb
        go_wp2_with fail
        refine (trim_any _ _ _ X _ (by omega) (Nat.le_refl _) hXl hsl).mono ?_
        rintro e w' ⟨m, rfl, hm, hlen, rfl⟩
        go_wp2_with fail
        go_ret
        rw [← HX.out]
        exact ⟨_, rfl, ⟨_, _, _, rfl, hm, hlen, hsl.take (by omega)⟩, hbel⟩
end Go.Proofs.YtdinpeglclkjhaaDoor
