/- The natural numbers of the program: binary digits. -/
import Derived.Test.YtdinpeglclkjhaaDoorNatE
import Derived.Test.YtdinpeglclkjhaaDoorLen32
import Derived.Laws.BitsAllLaws
namespace Go.Proofs.YtdinpeglclkjhaaDoor
open Go.RowKit Dg

theorem Len32_any (x : Nat) (w : World) (hx : x < 4294967296) :
    Calls Tryd.prog 144 #[.int .u32 x] w fun e w' => e = .returned (.int .i64 (Lib.bitLen x)) ∧ w = w' :=
  Len32_int x w (by omega) (by omega)

theorem bitLen_len : ∀ (k x : Nat), x < 2 ^ k → k ≤ 64 → Len 2 x (Lib.bitLen x)
  | 0, x, hx, _ => by
    obtain rfl : x = 0 := by simpa using hx
    exact Len.zero
  | k + 1, x, hx, hk => by
    by_cases h0 : x = 0
    · subst h0; exact Len.zero
    · have h64 : x < 2 ^ 64 := Nat.lt_of_lt_of_le hx (Nat.pow_le_pow_right (by omega) hk)
      have ih := bitLen_len k (x / 2) (by rw [Nat.pow_succ] at hx; omega) (by omega)
      rw [Lib.bitLen_half x h0 h64, Nat.add_comm]
      refine ⟨by have := ih.1; rw [Nat.pow_succ]; omega, fun _ => ?_⟩
      simp only [Nat.add_sub_cancel]
      rcases Nat.eq_zero_or_pos (Lib.bitLen (x / 2)) with hb | hb
      · rw [hb]; simp; omega
      · have := ih.2 hb
        obtain ⟨c, hc⟩ : ∃ c, Lib.bitLen (x / 2) = c + 1 := ⟨Lib.bitLen (x / 2) - 1, by omega⟩
        rw [hc] at this ⊢
        simp only [Nat.add_sub_cancel] at this
        rw [Nat.pow_succ]; omega

theorem LeadingZeros32_any (x : Nat) (w : World) (hx : x < 4294967296) :
    Calls Tryd.prog 136 #[.int .u32 x] w fun e w' => ∃ b : Nat, e = .returned (.int .i64 ((32 : Int) - b)) ∧ b ≤ 32 ∧ Len 2 x b ∧ w = w' := by
  have hl := bitLen_len 32 x (by omega) (by omega)
  have h32 : Lib.bitLen x ≤ 32 := hl.le (by omega) (show x < 2 ^ 32 by omega)
  have hc := Len32_any x w hx
  generalize Lib.bitLen x = b at *
  have HL : Hid (Len 2 x b) := hl
  clear hl
  go_enter Tryd.func136, Tryd.ntmps136
  go_wp2_with fail
  refine hc.mono ?_
  rintro e w' ⟨rfl, rfl⟩
  clear hc
  go_wp2_with fail
  go_ret
  exact ⟨b, rfl, h32, HL.out, rfl⟩

/-- The digits of a number whose upper part has some. -/
theorem len_up {x k b : Nat} (h : Len 2 (x / 2 ^ k) b) (hb : 0 < b) : Len 2 x (k + b) := by
  refine ⟨?_, fun _ => ?_⟩
  · have h1 := h.1
    rw [Nat.div_lt_iff_lt_mul (Nat.pow_pos (by omega)), ← Nat.pow_add, Nat.add_comm b k] at h1
    exact h1
  · have h2 := h.2 hb
    rw [Nat.le_div_iff_mul_le (Nat.pow_pos (by omega)), ← Nat.pow_add] at h2
    rw [show k + b - 1 = b - 1 + k by omega]; exact h2

theorem W32_pow (k : Nat) : W32 ^ k = 2 ^ (32 * k) := by rw [Nat.pow_mul]; rfl

theorem Bits_any (v : Value) (x : Nat) (w : World) (h : Rep W32 w v x) (hx : x < W32 ^ 1000000000) :
    Calls Tryd.prog 122 #[v] w fun e w' => ∃ b : Nat, e = .returned (.int .i64 b) ∧ Len 2 x b ∧ w = w' := by
  obtain ⟨p, n, cap, rfl, _, hl, hs⟩ := h
  have hn := hl.le W32_pos hx
  clear hx
  rcases Nat.eq_zero_or_pos n with h0 | h0
  · subst h0
    obtain rfl := hl.eq_zero
    clear hl hs
    go_enter Tryd.func122, Tryd.ntmps122
    go_wp2_with fail
    go_ret
    exact ⟨0, rfl, Len.zero, rfl⟩
  · obtain ⟨k, rfl⟩ : ∃ k, n = k + 1 := ⟨n - 1, by omega⟩
    obtain ⟨b, off, rfl, hc⟩ := hs (by omega)
    have hck := hc k (by omega)
    have ht : dg W32 x k = x / 2 ^ (32 * k) := by rw [dg_top hl.1, W32_pow]
    have h1 := dg_u32 x k
    have hne := hl.top W32_pos h0
    simp only [Nat.add_sub_cancel] at hne
    have HT : Hid (dg W32 x k = x / 2 ^ (32 * k)) := ht
    clear ht hc hs hl
    have hcal := LeadingZeros32_any (dg W32 x k) w h1
    generalize dg W32 x k = t at *
    have hz : ((((k + 1 : Nat) : Int)) == 0) = false := by simp; omega
    go_enter Tryd.func122, Tryd.ntmps122
    go_wp2_with fail
    refine hcal.mono ?_
    rintro e w' ⟨b, rfl, hb, hlen, rfl⟩
    have Hl : Hid (Len 2 t b) := hlen
    clear hcal hlen
    go_wp2_with fail
    go_ret
    have hb0 : 0 < b := by
      rcases Nat.eq_zero_or_pos b with h | h
      · subst h; exact absurd Hl.out.eq_zero hne
      · exact h
    refine ⟨32 * k + b, ret_i64 (by omega), len_up (by rw [← HT.out]; exact Hl.out) hb0, rfl⟩
end Go.Proofs.YtdinpeglclkjhaaDoor
