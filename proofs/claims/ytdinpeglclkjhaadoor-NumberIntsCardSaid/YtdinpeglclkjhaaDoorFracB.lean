/- Fractions of the program: size, copies of words. -/
import Derived.Test.YtdinpeglclkjhaaDoorFracA
namespace Go.Proofs.YtdinpeglclkjhaaDoor
open Go.RowKit Dg

/-- Too large for an argument or a result. -/
def big (n d : Nat) : Bool := decide (W32 ^ 64 ≤ n ∨ W32 ^ 64 ≤ d)

theorem big_len {n d k m : Nat} (hn : Len W32 n k) (hd : Len W32 d m) : big n d = decide (64 < max k m) := by
  unfold big
  rw [Bool.eq_iff_iff]
  simp only [decide_eq_true_eq]
  have key : ∀ {x j : Nat}, Len W32 x j → (W32 ^ 64 ≤ x ↔ 64 < j) := by
    intro x j h
    constructor
    · intro hx
      rcases Nat.lt_or_ge 64 j with hj | hj
      · exact hj
      · have h1 := h.1
        have h2 := Nat.pow_le_pow_right W32_pos hj
        omega
    · intro hj
      exact Nat.le_trans (Nat.pow_le_pow_right W32_pos (show 64 ≤ j - 1 by omega)) (h.2 (by omega))
  rw [key hn, key hd]
  omega

set_option maxRecDepth 100000 in
theorem large_any (v : Value) (s : Bool) (n d : Nat) (w : World) (h : FRep w v s n d) (hn : n < W32 ^ 1000000000) (hd : d < W32 ^ 1000000000) :
    Calls Tryd.prog 100 #[v] w fun e w' => e = .returned (.bool (big n d)) ∧ Below w.heap.size w w' := by
  obtain ⟨vn, vd, rfl, ⟨p1, k1, c1, rfl, _, hl1, _⟩, ⟨p2, k2, c2, rfl, _, hl2, _⟩⟩ := h
  have b1 := hl1.le W32_pos hn
  have b2 := hl2.le W32_pos hd
  rw [big_len hl1 hl2, show decide (64 < max k1 k2) = decide ((64 : Int) < max (k1 : Int) (k2 : Int)) by rw [Bool.eq_iff_iff]; simp only [decide_eq_true_eq]; omega]
  clear hn hd hl1 hl2
  go_enter Tryd.func100, Tryd.ntmps100
  go_wp2_with fail
  go_ret
  exact ⟨rfl, (Below.refl _ _).alloc (Nat.le_refl _) _⟩

set_option maxHeartbeats 1000000 in
set_option maxRecDepth 100000 in
theorem words_any (v : Value) (n : Nat) (w : World) (h : Rep W32 w v n) (hn : n < W32 ^ 1000000000) :
    Calls Tryd.prog 101 #[v] w fun e w' => ∃ v', e = .returned v' ∧ Rep W32 w' v' n ∧ Below w.heap.size w w' := by
  have hz := IsZero_any v n w h
  obtain ⟨p, k, c, rfl, hkc, hl, hs⟩ := h
  have hk := hl.le W32_pos hn
  have hmk := Tryd.mk k (by omega)
  have hk0 := hl.zero_iff W32_pos
  by_cases h0 : n = 0
  · rw [decide_eq_true h0] at hz
    clear hn hl hs hk0 hmk
    go_enter Tryd.func101, Tryd.ntmps101
    go_wp2_with fail
    refine hz.mono ?_
    rintro e w' ⟨rfl, rfl⟩
    go_wp2_with fail
    go_ret
    exact ⟨_, rfl, by rw [h0]; exact Rep.nil, Below.refl _ _⟩
  · rw [decide_eq_false h0] at hz
    have hkp : 0 < k := by omega
    have HM0 := hid (Mk.start W32 w k)
    have Hsa := hid (hs.alloc (.cells (madeCells #[.int .u32 0] k) 58))
    have Hl := hid hl
    clear hn hl hs hk0
    go_enter Tryd.func101, Tryd.ntmps101
    go_wp2_with fail
    refine hz.mono ?_
    rintro e w' ⟨rfl, rfl⟩
    clear hz h0
    go_wp2_with (with_reducible refine wpList_copy_digits (dT := 22) (sT := 52) (B := W32) (w0 := w) (N := k) (n := k) (cap := c) (p := p) (x := n) rfl (.tmp 9) (.tmp 10) rfl Tryd.underlying22 rfl rfl W32_pos HM0.out Hsa.out hkp ?_)
    intro w1 hM
    go_wp2_with fail
    go_ret
    rw [show n % W32 ^ k = n from Nat.mod_eq_of_lt Hl.out.1] at hM
    exact ⟨_, rfl, ⟨_, _, _, rfl, Nat.le_refl _, Hl.out, hM.slc⟩, hM.bel⟩
end Go.Proofs.YtdinpeglclkjhaaDoor
