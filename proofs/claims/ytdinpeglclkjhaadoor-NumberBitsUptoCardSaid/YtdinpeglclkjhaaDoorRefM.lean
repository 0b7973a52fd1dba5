/- The natural numbers of the specification: the shift to the right by less than a digit. -/
import Derived.Test.YtdinpeglclkjhaaDoorRefL
namespace Go.Proofs.YtdinpeglclkjhaaDoor
open Go.RowKit Dg

theorem shr16_step {x k n : Nat} (hn : n < 16) : dg B16 (x / 2 ^ n) k = ((dg B16 x k + dg B16 x (k + 1) * 65536) / 2 ^ n) % 65536 := by
  have hW : B16 = 2 ^ n * 2 ^ (16 - n) := by rw [← Nat.pow_add, show n + (16 - n) = 16 by omega]; rfl
  have e : dg B16 (x / 2 ^ n) k = (x / B16 ^ k) / 2 ^ n % B16 := by
    unfold dg
    rw [Nat.div_div_eq_div_mul, Nat.div_div_eq_div_mul, Nat.mul_comm]
  rw [e, dg_shr hW]
  unfold dg
  rw [Nat.div_div_eq_div_mul, ← Nat.pow_succ, B16_val, Nat.mul_comm 65536]
theorem cast_shr16 (S n : Nat) : ((S : Int) / 2 ^ n) % 65536 = (((S / 2 ^ n) % 65536 : Nat) : Int) := by
  rw [show (2 : Int) ^ n = ((2 ^ n : Nat) : Int) by push_cast; rfl, ← Int.natCast_ediv]
  omega

def ShrRel (w0 : World) (x n n1 : Nat) (v i : Value) (wr : World) : Prop := ∃ k : Nat, i = .int .i64 k ∧ k ≤ n1 ∧ Own wr w0.heap.size v k (dg B16 (x / 2 ^ n)) ∧ Below w0.heap.size w0 wr

set_option maxHeartbeats 2000000 in
set_option maxRecDepth 100000 in
theorem NatShr_any (va : Value) (x n : Nat) (w : World) (ha : Rep B16 w va x) (hx : x < B16 ^ 1000000000) (hn : n < 16) :
    Calls Tryd.prog 126 #[va, .int .i64 n] w fun e w' => ∃ v, e = .returned v ∧ Rep B16 w' v (x / 2 ^ n) ∧ Below w.heap.size w w' := by
  obtain ⟨i0, hi, hz0, hz1, hz2⟩ := info_parts Tryd.infoU32
  obtain ⟨p1, k1, c1, rfl, hk1, hl1, hs1⟩ := ha
  have hb1 := hl1.le B16_pos hx
  have hz1' := hl1.zero_iff B16_pos
  have HS := hid (And.intro hs1 (And.intro hl1 hx))
  have hq1 : (n : Int) / 16 = 0 := by omega
  have hq2 : Int.tdiv (n : Int) 16 = 0 := by rw [Int.tdiv_eq_ediv_of_nonneg (by omega)]; exact hq1
  have hn1 : (decide ((n : Int) < 0)) = false := decide_eq_false (by omega)
  clear hx hs1 hl1
  by_cases h0 : k1 = 0
  · subst h0
    have hx0 := hz1'.2 rfl
    subst hx0
    clear hz1'
    go_enter Tryd.func126, Tryd.ntmps126
    go_wp2_with fail
    go_ret
    refine ⟨_, rfl, ?_, Below.refl _ _⟩
    rw [Nat.zero_div]
    exact Rep.nil
  · have hmk : ∀ W : World, (Instr.makeSlice 32 (.int .i64 0) (.int .i64 (k1 : Int))).run Tryd.prog W = .ok (.slice (some ⟨W.heap.size, 0, none⟩) 0 k1) (W.alloc (.cells (madeCells #[.int .u32 0] k1) 58)) := Tryd.mk0 k1 (by omega)
    have hle : (decide ((k1 : Int) ≤ 0)) = false := decide_eq_false (by omega)
    obtain ⟨b0, o0, rfl, hc0⟩ := HS.out.1 (by omega)
    clear hc0
    go_enter Tryd.func126, Tryd.ntmps126
    go_wp2_with fail
    clear hmk
    have hr1 : (n : Int) % 16 = n := by omega
    have hr2 : Int.tmod (n : Int) 16 = n := by rw [Int.tmod_eq_emod_of_nonneg (by omega)]; exact hr1
    have hwn : IntKind.u64.wrap (n : Int) = n := by simp [IntKind.wrap, IntKind.bits, IntKind.signed]; omega
    go_loopw [5, 26] (fun v i wr => ShrRel w x n k1 v i wr) (fun _ i _ => k1 - (intOf i).toNat)
    case atStart => exact ⟨0, rfl, by omega, own_made w _ k1 (Nat.le_refl _) (by omega) _, (Below.refl _ _).alloc (Nat.le_refl _) _⟩
    case round =>
      obtain ⟨k, rfl, hkk, hown, hB⟩ := hrel
      by_cases hlt : k < k1
      · have hsl := HS.out.1.below hB
        obtain ⟨b', o', hpx, hc0⟩ := hsl (by omega)
        simp only [Option.some.injEq, Addr.mk.injEq, and_true] at hpx
        obtain ⟨rfl, rfl⟩ := hpx
        have hc1 := hc0 k hlt
        have hg := dg_16 x k
        by_cases hlt2 : k + 1 < k1
        · have hc2 := hc0 (k + 1) hlt2
          have hg2 := dg_16 x (k + 1)
          have HQ := hid (shr16_step (x := x) (k := k) hn)
          clear hc0 hsl
          generalize dg B16 x k = g at *
          generalize dg B16 x (k + 1) = g2 at *
          have hu1 : IntKind.u32.wrap ((g2 : Int) * 65536) = (g2 : Int) * 65536 := by simp [IntKind.wrap, IntKind.bits, IntKind.signed]; omega
          have hu2 : IntKind.u32.wrap ((g : Int) + (g2 : Int) * 65536) = ((g + g2 * 65536 : Nat) : Int) := by simp [IntKind.wrap, IntKind.bits, IntKind.signed]; omega
          have hcs : (g : Int) + (g2 : Int) * 65536 = ((g + g2 * 65536 : Nat) : Int) := by omega
          have hS : g + g2 * 65536 < 4294967296 := by omega
          generalize g + g2 * 65536 = S at *
          have hsize := hB.size
          have hown1 := fun q hq => (World.ownsRow.lt hown q hq).1
          have hal := (show wr.ownsRow w.heap.size 58 1 u5 k ((List.range k).map (fun j => Value.int .u32 (dg B16 (x / 2 ^ n) j : Nat))) from hown).alloc (.cells #[.int .u32 ((S : Int) / 2 ^ n % 65536)] 58)
          have HA := hid (And.intro hal (And.intro hB (And.intro hown1 HQ)))
          clear hal hown hB hown1
          go_wp2_with (first
            | (at_builtin; refine wpList_append_own _ rfl _ _ 32 rfl w.heap.size 58 i0 (.int .u32 0) 1 4 Tryd.underlying32 hi hz0 hz1 hz2 rfl (by decide) _ _ _ rfl HA.out.1 ⟨wr.heap.size, 0, none⟩ 1 1 [.int .u32 ((S : Int) / 2 ^ n % 65536)] rfl rfl (cell_one_new _ _ _) (fun x hx => by simp at hx; subst hx; rfl) (by unfold maxLen; omega) (by omega) (by simp; omega) ?_; intro v' w3 hown' hgrow3 hnil3))
          go_roundw
          case rel =>
            refine ⟨k + 1, by go_num, by omega, Own.push hown' (by rw [cast_shr16, HA.out.2.2.2.out]), ?_⟩
            exact (HA.out.2.1.alloc hsize _).grown (show (wr.alloc _).grownBy w3 u5.ownBlock from hgrow3) (by rw [World.size_alloc]; omega) HA.out.2.2.1
          case measure => simp [intOf]; omega
        · have HQ : Hid (dg B16 (x / 2 ^ n) k = (dg B16 x k / 2 ^ n) % 65536) := by
            have h := shr16_step (x := x) (k := k) hn
            rw [dg_zero' B16_pos HS.out.2.1.1 (show k1 ≤ k + 1 by omega), Nat.zero_mul, Nat.add_zero] at h
            exact h
          clear hc0 hsl
          generalize dg B16 x k = S at *
          have hsize := hB.size
          have hown1 := fun q hq => (World.ownsRow.lt hown q hq).1
          have hal := (show wr.ownsRow w.heap.size 58 1 u5 k ((List.range k).map (fun j => Value.int .u32 (dg B16 (x / 2 ^ n) j : Nat))) from hown).alloc (.cells #[.int .u32 ((S : Int) / 2 ^ n % 65536)] 58)
          have HA := hid (And.intro hal (And.intro hB (And.intro hown1 HQ)))
          clear hal hown hB hown1
          go_wp2_with (first
            | (at_builtin; refine wpList_append_own _ rfl _ _ 32 rfl w.heap.size 58 i0 (.int .u32 0) 1 4 Tryd.underlying32 hi hz0 hz1 hz2 rfl (by decide) _ _ _ rfl HA.out.1 ⟨wr.heap.size, 0, none⟩ 1 1 [.int .u32 ((S : Int) / 2 ^ n % 65536)] rfl rfl (cell_one_new _ _ _) (fun x hx => by simp at hx; subst hx; rfl) (by unfold maxLen; omega) (by omega) (by simp; omega) ?_; intro v' w3 hown' hgrow3 hnil3))
          go_roundw
          case rel =>
            refine ⟨k + 1, by go_num, by omega, Own.push hown' (by rw [cast_shr16, HA.out.2.2.2.out]), ?_⟩
            exact (HA.out.2.1.alloc hsize _).grown (show (wr.alloc _).grownBy w3 u5.ownBlock from hgrow3) (by rw [World.size_alloc]; omega) HA.out.2.2.1
          case measure => simp [intOf]; omega
      · have hk' : k = k1 := by omega
        subst hk'
        have hy : x / 2 ^ n < B16 ^ k := div_lt_pow16 HS.out.2.1.1
        obtain ⟨p3, c3, rfl, hkc, hsl3⟩ := hown.slc
        have htr := hid (trim_any p3 k c3 (x / 2 ^ n) wr (by omega) hkc hy hsl3)
        have HF := hid (And.intro hsl3 hB)
        clear hown hsl3 hB hy
        go_wp2_with fail
        refine htr.out.mono ?_
        rintro e w' ⟨m, rfl, hm, hlen, rfl⟩
        clear htr
        go_wp2_with fail
        go_ret
        exact ⟨_, rfl, ⟨_, _, _, rfl, by omega, hlen, HF.out.1.take hm⟩, HF.out.2⟩
end Go.Proofs.YtdinpeglclkjhaaDoor
