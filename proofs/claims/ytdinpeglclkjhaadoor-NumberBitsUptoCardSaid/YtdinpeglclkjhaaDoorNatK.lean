/- The natural numbers of the program: shift to the right, the tail. -/
import Derived.Test.YtdinpeglclkjhaaDoorNatJ
namespace Go.Proofs.YtdinpeglclkjhaaDoor
open Go.RowKit Dg

theorem Mk.drewN {B : Nat} {w wr : World} {N X : Nat} (h : Mk B w wr N X) (n : Nat) : Mk B w (wr.drewN n) N X := ⟨below_drewN h.bel n, h.row⟩

theorem shr_step {x k s t : Nat} (ht : t < 32) : dg W32 (x / 2 ^ (32 * s + t)) k = ((dg W32 x (k + s) + dg W32 x (k + s + 1) * 4294967296) / 2 ^ t) % 4294967296 := by
  have hW := W32_mul t ht
  have e : dg W32 (x / 2 ^ (32 * s + t)) k = (x / W32 ^ (k + s)) / 2 ^ t % W32 := by
    unfold dg
    rw [pow_split, Nat.div_div_eq_div_mul, Nat.div_div_eq_div_mul]
    congr 2
    rw [Nat.pow_add]; grind
  rw [e, dg_shr hW]
  unfold dg
  rw [Nat.div_div_eq_div_mul, ← Nat.pow_succ, W32_val, Nat.mul_comm 4294967296]

theorem or_join64i (r a : Nat) (hr : r < 4294967296) (ha : a < 4294967296) : bits .or .u64 (a : Int) ((r : Int) * 4294967296) = (a : Int) + (r : Int) * 4294967296 := by
  rw [or_join64' r a hr ha]; omega

theorem cast_shr (a b t : Nat) : ((a : Int) + (b : Int) * 4294967296) / 2 ^ t % 4294967296 = ((((a + b * 4294967296) / 2 ^ t) % 4294967296 : Nat) : Int) := by
  have e : (a : Int) + (b : Int) * 4294967296 = ((a + b * 4294967296 : Nat) : Int) := by omega
  have e2 : (2 : Int) ^ t = ((2 ^ t : Nat) : Int) := by rw [Int.natCast_pow]; rfl
  rw [e, e2, ← Int.natCast_ediv]
  omega

theorem div_pow_lt {x na s t : Nat} (h : x < W32 ^ na) (hs : s ≤ na) : x / 2 ^ (32 * s + t) < W32 ^ (na - s) := by
  rw [pow_split, ← Nat.div_div_eq_div_mul]
  refine Nat.lt_of_le_of_lt (Nat.div_le_self _ _) (Nat.div_lt_of_lt_mul ?_)
  rwa [← Nat.pow_add, Nat.add_sub_cancel' hs]

set_option maxHeartbeats 1000000 in
set_option maxRecDepth 100000 in
theorem Shr_any (va : Value) (x n : Nat) (w : World) (ha : Rep W32 w va x) (hx : x < W32 ^ 1000000000) (hn : n ≤ 1000000000000) :
    Calls Tryd.prog 132 #[va, .int .i64 n] w fun e w' => ∃ v, e = .returned v ∧ Rep W32 w' v (x / 2 ^ n) ∧ Below w.heap.size w w' := by
  obtain ⟨pa, na, ca, rfl, hca, hla, hsa⟩ := ha
  have hna := hla.le W32_pos hx
  clear hx
  by_cases hn0 : n = 0
  · subst hn0
    go_enter Tryd.func132, Tryd.ntmps132
    go_wp2_with fail
    go_ret
    exact ⟨_, rfl, ⟨_, _, _, rfl, hca, by simpa using hla, by simpa using hsa⟩, Below.refl _ _⟩
  · have hnz : ((n : Int) == 0) = false := by simp; omega
    obtain ⟨s, t, hst, ht⟩ : ∃ s t, n = 32 * s + t ∧ t < 32 := ⟨n / 32, n % 32, by omega, by omega⟩
    have hq : (n : Int) / 32 = (s : Int) := by omega
    have Hst : Hid (n = 32 * s + t) := hst
    have hs1 : s ≤ 1000000000000 := by omega
    clear hst
    by_cases hsk : na ≤ s
    · have h0 : x / 2 ^ n = 0 := by
        rw [Hst.out, pow_split]
        refine Nat.div_eq_of_lt (Nat.lt_of_lt_of_le hla.1 ?_)
        refine Nat.le_trans (Nat.pow_le_pow_right W32_pos hsk) ?_
        exact Nat.le_mul_of_pos_right _ (Nat.pow_pos (by omega))
      rw [h0]
      clear hsa hla h0
      go_enter Tryd.func132, Tryd.ntmps132
      go_wp2_with fail
      go_ret
      exact ⟨_, rfl, Rep.nil, Below.refl _ _⟩
    · have hmk := Tryd.mk (na - s) (by omega)
      rw [Int.ofNat_sub (by omega)] at hmk
      have hxd : x / 2 ^ n < W32 ^ (na - s) := by rw [Hst.out]; exact div_pow_lt hla.1 (by omega)
      have Hxd : Hid (x / 2 ^ n < W32 ^ (na - s)) := hxd
      clear hxd
      go_enter Tryd.func132, Tryd.ntmps132
      go_wp2_with fail
      clear hmk hq
      go_loopw [28] (fun i wr => ∃ k Z : Nat, k ≤ na - s ∧ i = .int .i64 k ∧ Z = (x / 2 ^ n) % W32 ^ k ∧ Mk W32 w wr (na - s) Z) (fun i _ => na - s - (intOf i).toNat)
      case atStart => exact ⟨0, 0, by omega, rfl, by simp [Nat.mod_one], Mk.start _ _ _⟩
      case round =>
        obtain ⟨k, Z, hk, rfl, hZ, hM⟩ := hrel
        by_cases hlt : k < na - s
        · have hsa' := hsa.below hM.bel
          have hwb := fun q => word_any pa na ca x (k + s + 1) (wr.drewN q) (by omega) (by omega) hla.1 (hsa'.below (below_drewN (Below.refl _ _) q))
          obtain ⟨b1, o1, rfl, hc1⟩ := hsa' (by omega)
          have hk1 := hc1 (k + s) (by omega)
          have hk1' : wr.cell? ⟨b1, o1 + (k + s), none⟩ = some (.int .u32 (dg W32 x (k + s) : Nat)) := hk1
          have hdx := dg_u32 x (k + s)
          have hdy := dg_u32 x (k + s + 1)
          have hor := or_join64i (dg W32 x (k + s + 1)) (dg W32 x (k + s)) hdy hdx
          have hcell := hM.cell (show k < na - s by omega)
          have hfrz := hM.row.frozen k
          have HS := hid (shr_step (x := x) (k := k) (s := s) ht)
          have hZl : Z < W32 ^ k := by rw [hZ]; exact Nat.mod_lt _ (Nat.pow_pos W32_pos)
          have HN := hid (mod_succ W32 (x / 2 ^ n) k)
          have HZ := hid hZ
          have HZl := hid hZl
          have hnt : n % 32 = t := by have := Hst.out; omega
          have Hnt := hid hnt
          have Hwb := hid hwb
          clear hZ hc1 hsa hnt hk1 hZl hwb hla
          generalize dg W32 x (k + s) = a at *
          generalize dg W32 x (k + s + 1) = b at *
          go_wp2_with fail
          go_quiet ((go_at_call 128; exact quiet_gen (Hwb.out _)))
          go_wp2_with fail
          go_roundw
          case rel =>
            refine ⟨k + 1, Z + W32 ^ k * (((a + b * 4294967296) / 2 ^ t) % 4294967296), by omega, by go_num, ?_, ?_⟩
            · rw [HN.out, HZ.out, ← HS.out, ← Hst.out]
            · refine (hM.drewN _).push W32_pos HZl.out (by rw [W32_val]; exact Nat.mod_lt _ (by omega)) ?_
              rw [Hnt.out]; exact cast_shr a b t
          case measure => simp [intOf]; omega
        · have hk' : k = na - s := by omega
          subst hk'
          have hZ' : Z = x / 2 ^ n := by rw [hZ, Nat.mod_eq_of_lt Hxd.out]
          have hZl : Z < W32 ^ (na - s) := by rw [hZ']; exact Hxd.out
          have HZ := hid hZ'
          have hsl := hM.slc
          have hbel := hM.bel
          clear hZ hM hsa hZ'
          go_wp2_with fail
          refine (Of_any _ _ _ Z _ (by omega) (Nat.le_refl _) hZl hsl).mono ?_
          rintro e w' ⟨m, rfl, hm, hlen, rfl⟩
          go_wp2_with fail
          go_ret
          rw [← HZ.out]
          exact ⟨_, rfl, ⟨_, _, _, rfl, hm, hlen, hsl.take (by omega)⟩, hbel⟩
end Go.Proofs.YtdinpeglclkjhaaDoor
