/- The natural numbers of the program: Sub, Mul. -/
import Derived.Test.YtdinpeglclkjhaaDoorNatC
namespace Go.Proofs.YtdinpeglclkjhaaDoor
open Go.RowKit Dg

theorem Tryd.mk (N : Nat) (hN : N ≤ 4000000000) (w : World) : (Instr.makeSlice 22 (.int .i64 (N : Int)) (.int .i64 (N : Int))).run Tryd.prog w = .ok (.slice (some ⟨w.heap.size, 0, none⟩) N N) (w.alloc (.cells (madeCells #[.int .u32 0] N) 58)) :=
  run_make_row' (P := Tryd.prog) 22 58 (.int .u32 0) 4 Tryd.underlying22 Tryd.infoU32 rfl .i64 .i64 N (by omega) (by omega) w

theorem u64_mod (n : Int) : IntKind.u64.wrap n = n % 18446744073709551616 := by
  simp [IntKind.wrap, IntKind.bits, IntKind.signed]
theorem u32_mod (n : Int) : IntKind.u32.wrap n = n % 4294967296 := IntKind.wrap_u32 n
theorem u64_borrow (a b c : Nat) (ha : a < 4294967296) (hb : b < 4294967296) (hc : c ≤ 1) (h : a < b + c) :
    IntKind.u64.wrap (IntKind.u64.wrap ((a : Int) - (b : Int)) - (c : Int)) = ((18446744073709551616 + a - b - c : Nat) : Int) := by
  rw [u64_mod, u64_mod]; omega

set_option maxHeartbeats 400000 in
set_option maxRecDepth 100000 in
theorem Sub_any (va vb : Value) (x y : Nat) (w : World) (ha : Rep W32 w va x) (hb : Rep W32 w vb y) (hx : x < W32 ^ 1000000000) (hyx : y ≤ x) :
    Calls Tryd.prog 108 #[va, vb] w fun e w' => ∃ v, e = .returned v ∧ Rep W32 w' v (x - y) ∧ Below w.heap.size w w' := by
  obtain ⟨pa, na, ca, rfl, hca, hla, hsa⟩ := ha
  obtain ⟨pb, nb, cb, rfl, hcb, hlb, hsb⟩ := hb
  have hna := hla.le W32_pos hx
  have hnb := hlb.le W32_pos (Nat.lt_of_le_of_lt hyx hx)
  clear hx
  have hmk := Tryd.mk na (by omega)
  go_enter Tryd.func108, Tryd.ntmps108
  go_wp2
  clear hmk
  go_loopw [6, 15] (fun c i wr => ∃ k X cc : Nat, k ≤ na ∧ i = .int .i64 k ∧ c = .int .u64 cc ∧ cc ≤ 1 ∧ X < W32 ^ k ∧ X + y % W32 ^ k = x % W32 ^ k + W32 ^ k * cc ∧ Mk W32 w wr na X) (fun _ i _ => na - (intOf i).toNat)
  case atStart => exact ⟨0, 0, 0, by omega, rfl, rfl, by omega, by simp, by simp [Nat.mod_one], Mk.start _ _ _⟩
  case round =>
    obtain ⟨k, X, c, hk, rfl, rfl, hc, hX, hXc, hM⟩ := hrel
    have hsa' := hsa.below hM.bel
    have hsb' := hsb.below hM.bel
    have Hxc : Hid (X + y % W32 ^ k = x % W32 ^ k + W32 ^ k * c) := hXc
    have HX : Hid (X < W32 ^ k) := hX
    clear hXc hX
    by_cases hlt : k < na
    · have hyb := hlb.1
      have hwb := word_any pb nb cb y k wr (by omega) (by omega) hyb hsb'
      obtain ⟨b0, o0, rfl, hca0⟩ := hsa' (by omega)
      have hca1 := hca0 k hlt
      have hda := dg_u32 x k
      have hdb := dg_u32 y k
      have hround := fun s c' => sub_round (s := s) (c' := c') Hxc.out
      generalize dg W32 x k = a at *
      generalize dg W32 y k = b at *
      have HR : Hid (∀ s c', s + b + c = a + W32 * c' → X + W32 ^ k * s + y % W32 ^ (k + 1) = x % W32 ^ (k + 1) + W32 ^ (k + 1) * c') := hround
      clear hround hyb hca0 hsa
      have hcell := hM.cell hlt
      have hfrz := hM.row.frozen k
      by_cases hbor : b + c ≤ a
      · go_wp2_with fail
        refine hwb.mono ?_
        rintro e w' ⟨rfl, rfl⟩
        clear hwb
        go_wp2_with fail
        go_roundw
        case rel =>
          exact ⟨k + 1, X + W32 ^ k * (a - b - c), 0, by omega, by go_num, congrArg (Value.int .u64) (by omega), by omega, add_lt HX.out (by rw [W32_val]; omega),
            HR.out _ _ (by omega), hM.push W32_pos HX.out (by rw [W32_val]; omega) (by omega)⟩
        case measure => simp [intOf]; omega
      · have hw := u64_borrow a b c (by omega) (by omega) hc (by omega)
        have Hw : Hid (IntKind.u64.wrap (IntKind.u64.wrap ((a : Int) - (b : Int)) - (c : Int)) = ((18446744073709551616 + a - b - c : Nat) : Int)) := hw
        clear hw
        go_wp2_with fail
        refine hwb.mono ?_
        rintro e w' ⟨rfl, rfl⟩
        clear hwb
        go_wp2_with fail
        go_roundw
        case rel =>
          rw [Hw.out]
          exact ⟨k + 1, X + W32 ^ k * (4294967296 + a - b - c), 1, by omega, by go_num, congrArg (Value.int .u64) (by omega), by omega, add_lt HX.out (by rw [W32_val]; omega),
            HR.out _ _ (by rw [W32_val]; omega), hM.push W32_pos HX.out (by rw [W32_val]; omega) (by omega)⟩
        case measure => simp [intOf]; omega
    · have hk' : k = na := by omega
      subst hk'
      have hX : X = x - y := sub_end Hxc.out hla.1 hyx HX.out
      have hXl := HX.out
      have hsl := hM.slc
      have hbel := hM.bel
      clear hM Hxc HX hsa hsb hsa' hsb'
      go_wp2_with fail
      refine (Of_any _ _ _ X _ (by omega) (Nat.le_refl _) hXl hsl).mono ?_
      rintro e w' ⟨m, rfl, hm, hlen, rfl⟩
      go_wp2_with fail
      go_ret
      rw [← hX]
      exact ⟨_, rfl, ⟨_, _, _, rfl, hm, hlen, hsl.take (by omega)⟩, hbel⟩
end Go.Proofs.YtdinpeglclkjhaaDoor
