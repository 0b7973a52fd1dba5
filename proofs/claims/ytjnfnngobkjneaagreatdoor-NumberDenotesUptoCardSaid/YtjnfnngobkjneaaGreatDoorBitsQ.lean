/- The number of binary digits, in the specification. -/
import Derived.Test.YtjnfnngobkjneaaGreatDoorLawD
namespace Go.Proofs.YtjnfnngobkjneaaGreatDoor
open Go.RowKit Dg

theorem exists_len2 (x : Nat) : ∃ b, Len 2 x b := by
  induction x using Nat.strongRecOn with
  | _ x ih =>
    by_cases h : x = 0
    · exact ⟨0, by subst h; exact Len.zero⟩
    · obtain ⟨b, hb⟩ := ih (x / 2) (by omega)
      refine ⟨b + 1, ?_, fun _ => ?_⟩
      · have h1 := hb.1
        rw [Nat.pow_succ]
        omega
      · rw [Nat.add_sub_cancel]
        rcases Nat.eq_zero_or_pos b with h0 | h0
        · subst h0; rw [Nat.pow_zero]; omega
        · have h2 := hb.2 h0
          obtain ⟨c, rfl⟩ : ∃ c, b = c + 1 := ⟨b - 1, by omega⟩
          rw [Nat.add_sub_cancel] at h2
          rw [Nat.pow_succ]
          omega
theorem B16_pow2 (j : Nat) : B16 ^ j = 2 ^ (16 * j) := by rw [Nat.pow_mul]; rfl
theorem bits_top {x k c : Nat} (hl : Len B16 x (k + 1)) (hc : Len 2 (dg B16 x k) c) : Len 2 x (16 * k + c) := by
  have e : dg B16 x k = x / B16 ^ k := dg_top hl.1
  rw [e] at hc
  have hP : 0 < B16 ^ k := Nat.pow_pos B16_pos
  have hx : x / B16 ^ k ≠ 0 := by rw [← e]; exact hl.top B16_pos (by omega)
  have hc0 : 0 < c := by
    rcases Nat.eq_zero_or_pos c with h | h
    · subst h; have := hc.eq_zero; omega
    · exact h
  constructor
  · have h1 : x < B16 ^ k * 2 ^ c := by
      have h2 := Nat.lt_div_mul_add (a := x) hP
      have h3 : (x / B16 ^ k + 1) * B16 ^ k ≤ 2 ^ c * B16 ^ k := Nat.mul_le_mul_right _ hc.1
      rw [Nat.add_mul, Nat.one_mul] at h3
      rw [Nat.mul_comm (B16 ^ k)]
      omega
    rw [Nat.pow_add, ← B16_pow2]
    exact h1
  · intro _
    have h2 := hc.2 hc0
    have h3 : B16 ^ k * 2 ^ (c - 1) ≤ x := Nat.le_trans (Nat.mul_le_mul_left _ h2) (Nat.mul_div_le x _)
    rw [show 16 * k + c - 1 = 16 * k + (c - 1) by omega, Nat.pow_add, ← B16_pow2]
    exact h3

set_option maxHeartbeats 2000000 in
set_option maxRecDepth 100000 in
theorem NatBits_any (v : Value) (x b : Nat) (w : World) (h : Rep B16 w v x) (hx : x < B16 ^ 1000000000) (hb : Len 2 x b) :
    Calls Tryz.prog 109 #[v] w fun e w' => e = .returned (.int .i64 b) ∧ w = w' := by
  obtain ⟨p, n, cap, rfl, hnc, hl, hs⟩ := h
  have hn := hl.le B16_pos hx
  by_cases h0 : n = 0
  · subst h0
    have hx0 := hl.eq_zero
    subst hx0
    obtain rfl : b = 0 := Len.unique (by decide) hb Len.zero
    clear hb hl hs hx
    go_enter Tryz.func109, Tryz.ntmps109
    go_wp2_with fail
    go_ret
    exact ⟨rfl, rfl⟩
  · obtain ⟨k, rfl⟩ : ∃ k, n = k + 1 := ⟨n - 1, by omega⟩
    obtain ⟨b0, o0, rfl, hc⟩ := hs (by omega)
    have hc0 := hc k (by omega)
    have hd := dg_16 x k
    have HB := hid (fun c (h : Len 2 (dg B16 x k) c) => Len.unique (B := 2) (by decide) hb (bits_top hl h))
    have e1 : (((k + 1 : Nat)) : Int) - 1 = (k : Int) := by omega
    have hf : (((k + 1 : Nat) : Int) == 0) = false := by simp; omega
    clear hb hl hs hc hx
    generalize dg B16 x k = d at *
    obtain ⟨N, hN⟩ : ∃ N, N = k + 1 := ⟨_, rfl⟩
    rw [← hN] at e1 hf hn hnc h0 ⊢
    clear hN
    go_enter Tryz.func109, Tryz.ntmps109
    go_wp2_with fail
    go_loopw [3, 4] (fun nv xv wr => ∃ c : Nat, nv = .int .i64 ((16 * k + c : Nat) : Int) ∧ xv = .int .u32 ((d / 2 ^ c : Nat) : Int) ∧ (0 < c → 2 ^ (c - 1) ≤ d) ∧ c ≤ 16 ∧ wr = w) (fun _ xv _ => (intOf xv).toNat)
    case atStart => exact ⟨0, by go_num, by rw [Nat.pow_zero, Nat.div_one], fun h => absurd h (by omega), by omega, rfl⟩
    case round =>
      obtain ⟨c, rfl, rfl, h1, h2, rfl⟩ := hrel
      by_cases hz : d / 2 ^ c = 0
      · have hdl : d < 2 ^ c := (Nat.div_eq_zero_iff_lt (Nat.pow_pos (by decide))).1 hz
        have hbe := HB.out c ⟨hdl, h1⟩
        rw [hz]
        subst hbe
        clear hdl hz h1 hd HB
        go_wp2_with fail
        go_ret
        exact ⟨rfl, rfl⟩
      · have hge : 2 ^ c ≤ d := by
          rcases Nat.lt_or_ge d (2 ^ c) with h | h
          · exact absurd (Nat.div_eq_of_lt h) hz
          · exact h
        have hc16 : c < 16 := by
          rcases Nat.lt_or_ge c 16 with h | h
          · exact h
          · have h5 : 2 ^ 16 ≤ 2 ^ c := Nat.pow_le_pow_right (by decide) h
            have h6 : (2 : Nat) ^ 16 = 65536 := by decide
            omega
        have hnx : d / 2 ^ c / 2 = d / 2 ^ (c + 1) := by rw [Nat.div_div_eq_div_mul, Nat.pow_succ]
        have hqd : d / 2 ^ c < 65536 := Nat.lt_of_le_of_lt (Nat.div_le_self _ _) hd
        have HN := hid (And.intro hnx (And.intro hge hc16))
        clear hnx hge h1
        generalize d / 2 ^ c = q at *
        have hgt : decide ((0 : Int) < (q : Int)) = true := decide_eq_true (by omega)
        have hu : IntKind.i64.wrap (((16 * k + c : Nat) : Int) + 1) = ((16 * k + (c + 1) : Nat) : Int) := by rw [IntKind.wrap_i64]; omega
        have hq2 : IntKind.u32.wrap ((q : Int) / 2) = ((q / 2 : Nat) : Int) := by rw [IntKind.wrap_u32]; omega
        go_wp2_with fail
        refine ⟨⟨c + 1, by go_num, ?_, fun _ => HN.out.2.1, by omega, trivial⟩, ?_⟩
        · rw [← HN.out.1]; exact congrArg (Value.int .u32) (by omega)
        · simp [intOf]; omega
end Go.Proofs.YtjnfnngobkjneaaGreatDoor
